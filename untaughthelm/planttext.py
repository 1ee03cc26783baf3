"""Texts of plants: the field, the rows of A and the rows of B."""

from untaughthelm.errors import BadField, BadNumber, BadText
from untaughthelm.fields import Field
from untaughthelm.plants import Plant
from untaughthelm.ratios import parse_ratio


def plant_text(plant):
    """Return the text of a plant: its field, the rows of A and the rows of B."""
    field = plant.field
    return " | ".join([field_text(field), _table_text(field, plant.a), _table_text(field, plant.b)])


def field_text(field):
    """Return the text of a field."""
    return "fractions" if field.prime is None else f"mod {field.prime}"


def row_text(field, row):
    """Return the texts of a row's numbers with one space between them."""
    return " ".join([field.text(number) for number in row])


def _table_text(field, table):
    return ", ".join([row_text(field, row) for row in table])


def parse_plant(text):
    """Return the plant that has exactly this text."""
    if not isinstance(text, str):
        raise BadText(0)
    parts = text.split(" | ")
    if len(parts) != 3:
        raise BadText(0)
    field = parse_field(parts[0])
    words = _cut_rows(parts[1])
    size = len(words)
    if size > 4:
        raise BadText(1)
    a = _parse_rows(field, words, size, 1)
    words = _cut_rows(parts[2])
    inputs = len(words[0])
    if len(words) != size or inputs > 3:
        raise BadText(2)
    return Plant(field, a, _parse_rows(field, words, inputs, 2))


def parse_field(text):
    """Return the field that has exactly this text; raises BadText(0) for every other text."""
    if text == "fractions":
        return Field()
    if not text.startswith("mod "):
        raise BadText(0)
    try:
        top, bottom = parse_ratio(text.removeprefix("mod "))
        if bottom == 1:
            return Field(top)
    except (BadNumber, BadField):
        raise BadText(0) from None
    raise BadText(0)


def _cut_rows(text):
    # Every text has at least one row, and every row at least one word, be it an empty one.
    return [row.split(" ") for row in text.split(", ")]


def _parse_rows(field, rows, width, place):
    if not all([len(row) == width for row in rows]):
        raise BadText(place)
    try:
        return [[field.parse(word) for word in row] for row in rows]
    except BadNumber:
        raise BadText(place) from None
