"""Stories: what was done at a desk, deed by deed."""

from untaughthelm.ratios import is_sequence

# For each deed the kinds of the things behind its word. A state and an input are rows of numbers.
KINDS = {
    "plant": ("plant",),
    "begin": ("state",),
    "put": ("input",),
    "ahead": (),
    "push": ("state",),
    "exchange": ("plant",),
    "late": ("whole",),
    "goal": ("class", "state"),
    "rest": ("whole", "pushed"),
    "keep": ("state", "whole", "box", "bounds"),
    "tick": (),
    "go on": ("whole",),
    "row": ("state", "input", "state"),
    "cut": ("whole", "whole"),
    "back": (),
}


class Story:
    """A desk's field and numbers, and the deeds that stand."""

    def __init__(self, field, size, inputs, deeds):
        self.field = field
        self.size = size
        self.inputs = inputs
        self.deeds = deeds

    def __eq__(self, other):
        return (isinstance(other, Story) and self.field == other.field and self.size == other.size
                and self.inputs == other.inputs and self.deeds == other.deeds)


def is_deed(thing):
    """Return whether a thing is a sequence of a deed's word and as many things as the deed has."""
    if not is_sequence(thing, 1) or not isinstance(thing[0], str) or thing[0] not in KINDS:
        return False
    return len(thing) == len(KINDS[thing[0]]) + 1


def frozen(deed):
    """Return a deed that could be made as a tuple, the rows in it as tuples."""
    things = [tuple(thing) if kind in ("state", "input") else thing
              for kind, thing in zip(KINDS[deed[0]], deed[1:])]
    return (deed[0],) + tuple(things)
