"""Records: what was measured of one plant, row by row."""

from untaughthelm.errors import BadCut, BadLot, BadRecord
from untaughthelm.fields import check_row, same_field
from untaughthelm.ratios import ONE, is_sequence, is_whole
from untaughthelm.rows import row_table
from untaughthelm.spans import Span

_MOST_ROWS = 30


class Record:
    """Rows (x, u, y) of a state, an input and the reply; z is x with u behind it."""

    def __init__(self, field, size, inputs, rows=()):
        _check_shape(size, inputs, rows)
        for x, u, y in rows:
            check_row(field, "x", x, size)
            check_row(field, "u", u, inputs)
            check_row(field, "y", y, size)
        self.field = field
        self.size = size
        self.inputs = inputs
        self.rows = tuple([(tuple(x), tuple(u), tuple(y)) for x, u, y in rows])
        self.span = Span(field, size + inputs, [x + u for x, u, y in self.rows])
        self.kept = tuple([self.rows[place] for place in self.span.kept])
        self.rank = self.span.rank

    def __eq__(self, other):
        return (isinstance(other, Record) and self.field == other.field and self.size == other.size
                and self.inputs == other.inputs and self.rows == other.rows)

    def __len__(self):
        return len(self.rows)

    def __iter__(self):
        return iter(self.rows)

    @property
    def unknowns(self):
        """How many numbers of a plant that fits may be chosen freely."""
        return self.size * (self.size + self.inputs - self.rank)

    @classmethod
    def of_run(cls, plant, start, puts):
        """Return the record of the run of the plant from the start."""
        states = plant.run(start, puts)
        return cls(plant.field, plant.size, plant.inputs, list(zip(states, puts, states[1:])))

    def with_row(self, x, u, y):
        """Return the record with this row behind its rows."""
        return Record(self.field, self.size, self.inputs, self.rows + ((x, u, y),))

    def weights(self, x, u):
        """Return None if z is no sum of multiples of the rows' z, otherwise one number for each row.

        The rows' z times these numbers add up to z; rows that are not kept have 0.
        """
        check_row(self.field, "x", x, self.size)
        check_row(self.field, "u", u, self.inputs)
        return self.span.weights(tuple(x) + tuple(u))

    def quarrel(self):
        """Return None if some plant fits, otherwise one number for each row.

        The rows' z times these numbers add up to 0, their replies do not.
        """
        for place, (x, u, y) in enumerate(self.rows):
            # Of a kept row these name the row itself, of another one kept rows before it alone.
            weights = self.span.weights(x + u)
            if sum_of_replies(self, weights) != y:
                opposed = [self.field.negative(number) for number in weights]
                opposed[place] = ONE
                return tuple(opposed)
        return None

    def joined(self, other):
        """Return the record of this record's rows, then the other's."""
        same_field(self.field, other.field)
        check_sizes(self, other)
        return Record(self.field, self.size, self.inputs, self.rows + other.rows)

    def cut(self, low, high):
        """Return the record of the rows low to high - 1."""
        if not is_whole(high, 0, len(self.rows)) or not is_whole(low, 0, high):
            raise BadCut(low, high)
        return Record(self.field, self.size, self.inputs, self.rows[low:high])

    def without(self, lot):
        """Return the record without the rows at the places of the lot."""
        if not _is_lot(lot, len(self.rows)):
            raise BadLot(lot)
        rows = [row for place, row in enumerate(self.rows) if place not in lot]
        return Record(self.field, self.size, self.inputs, rows)


def sum_of_replies(record, weights):
    """Return the sum of the rows' replies, each times its weight; only kept rows have weights other than 0."""
    replies = [y for x, u, y in record.kept]
    return row_table(record.field, [weights[place] for place in record.span.kept], replies, record.size)


def check_sizes(record, other):
    """Raise BadRecord if a record and another one, or a plant, have other numbers of states or inputs."""
    if record.size != other.size:
        raise BadRecord("size")
    if record.inputs != other.inputs:
        raise BadRecord("inputs")


def _check_shape(size, inputs, rows):
    if not is_whole(size, 1, 4):
        raise BadRecord("size")
    if not is_whole(inputs, 1, 3):
        raise BadRecord("inputs")
    if not is_sequence(rows) or not all([is_sequence(row, 3, 3) for row in rows]):
        raise BadRecord("rows")
    if len(rows) > _MOST_ROWS:
        raise BadRecord("many")


def _is_lot(thing, many):
    # Each place stands above the one before it, so none stands twice.
    if not is_sequence(thing):
        return False
    low = 0
    for place in thing:
        if not is_whole(place, low, many - 1):
            return False
        low = place + 1
    return True
