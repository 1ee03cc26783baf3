"""Texts of stories: a row for the desk, then one for each deed."""

from untaughthelm.boxes import Bounds, Box
from untaughthelm.errors import BadBounds, BadBox, BadNumber, BadText
from untaughthelm.planttext import field_text, parse_field, parse_plant, plant_text, row_text
from untaughthelm.ratios import is_whole, parse_ratio
from untaughthelm.schedules import is_like
from untaughthelm.stories import KINDS, Story


def story_text(story):
    """Return the text of a story."""
    rows = [" | ".join(["desk", field_text(story.field), str(story.size), str(story.inputs)])]
    for deed in story.deeds:
        things = [_thing_text(story.field, kind, thing) for kind, thing in zip(KINDS[deed[0]], deed[1:])]
        rows.append(" | ".join([deed[0]] + things))
    return "\n".join(rows)


def parse_story(text):
    """Return the Story that has exactly this text."""
    if not isinstance(text, str):
        raise BadText(0)
    first, *rows = text.split("\n")
    reader = _desk_reader(first)
    deeds = []
    for place, row in enumerate(rows, start=1):
        try:
            deeds.append(reader.deed(row))
        except (BadNumber, BadText, BadBox, BadBounds):
            raise BadText(place) from None
    return Story(reader.field, reader.size, reader.inputs, tuple(deeds))


class DeedReader:
    """Reads the rows of deeds at a desk; raises some error of the package for a wrong one."""

    def __init__(self, field, size, inputs):
        self.field = field
        self.size = size
        self.inputs = inputs

    def deed(self, row):
        """Return the deed of a row."""
        word, *parts = row.split(" | ")
        if word not in KINDS or word == "back" or (word == "keep" and self.field.prime is not None):
            raise BadText(0)
        deed = [word]
        for kind in KINDS[word]:
            many = _many_parts(kind)
            if len(parts) < many:
                raise BadText(0)
            deed.append(self._thing(kind, parts[:many]))
            parts = parts[many:]
        if parts != []:
            raise BadText(0)
        return tuple(deed)

    def _thing(self, kind, parts):
        if kind == "plant":
            return self._plant(" | ".join(parts))
        if kind == "state":
            return self._row(parts[0], self.size, False)
        if kind == "input":
            return self._row(parts[0], self.inputs, False)
        if kind == "box":
            return Box(self._row(parts[0], self.size, False), self._row(parts[1], self.size, False))
        if kind == "bounds":
            return Bounds(self._row(parts[0], self.inputs, True), self._row(parts[1], self.inputs, True))
        if kind == "pushed":
            return _parse_pushed(parts[0])
        if kind == "class" and parts[0] == "any":
            return None
        return _parse_whole(parts[0], 0, 999)

    def _plant(self, text):
        plant = parse_plant(text)
        if not is_like(plant, self.field, self.size, self.inputs):
            raise BadText(0)
        return plant

    def _row(self, text, width, may_be_none):
        words = text.split(" ")
        if len(words) != width:
            raise BadText(0)
        return tuple([None if may_be_none and word == "none" else self.field.parse(word) for word in words])


def _desk_reader(row):
    parts = row.split(" | ")
    if len(parts) != 4 or parts[0] != "desk":
        raise BadText(0)
    field = parse_field(parts[1])
    try:
        return DeedReader(field, _parse_whole(parts[2], 1, 4), _parse_whole(parts[3], 1, 3))
    except BadNumber:
        raise BadText(0) from None


def _parse_whole(word, low, high):
    top, bottom = parse_ratio(word)
    if bottom != 1 or not is_whole(top, low, high):
        raise BadText(0)
    return top


def _parse_pushed(word):
    if word not in ("pushed", "still"):
        raise BadText(0)
    return word == "pushed"


def _many_parts(kind):
    if kind == "plant":
        return 3
    return 2 if kind in ("box", "bounds") else 1


def _thing_text(field, kind, thing):
    if kind == "plant":
        return plant_text(thing)
    if kind in ("state", "input"):
        return row_text(field, thing)
    if kind in ("box", "bounds"):
        return " | ".join([_ends_text(field, thing.low), _ends_text(field, thing.high)])
    if kind == "pushed":
        return "pushed" if thing else "still"
    return "any" if thing is None else str(thing)


def _ends_text(field, ends):
    return " ".join(["none" if end is None else field.text(end) for end in ends])
