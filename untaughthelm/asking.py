"""A program that knows no plant and asks as it goes."""

from untaughthelm.errors import BadAsker, Quarrel
from untaughthelm.fields import check_row
from untaughthelm.ratios import ONE, is_sequence, is_whole
from untaughthelm.rows import row_table, unit_table, zero_row
from untaughthelm.spans import Span, echelon_rows, first_new


class Asker:
    """What is known of a plant by kept rows (x, u, y), whose z, x with u behind it, were all new."""

    def __init__(self, field, size, inputs, kept=()):
        check_asker(size, inputs)
        span = _span_of_new(field, size, inputs, kept)
        if span is None:
            raise BadAsker("kept")
        self.field = field
        self.size = size
        self.inputs = inputs
        self._stand(tuple([(tuple(x), tuple(u), tuple(y)) for x, u, y in kept]), span)

    def __eq__(self, other):
        return (isinstance(other, Asker) and self.field == other.field and self.size == other.size
                and self.inputs == other.inputs and self.kept == other.kept)

    def ask(self, x):
        """Return the first of the inputs 0, e1, .., em without a known reply at the state x, None if all have one."""
        check_row(self.field, "x", x, self.size)
        return first_new(self._span, self.inputs, tuple(x))

    def hear(self, x, u, y):
        """Return the Asker that has also kept this row if its z is new."""
        known = self.reply(x, u)
        check_row(self.field, "y", y, self.size)
        if known is None:
            heard = Asker(self.field, self.size, self.inputs)
            row = (tuple(x), tuple(u), tuple(y))
            heard._stand(self.kept + (row,), self._span.with_row(row[0] + row[1]))
            return heard
        if known != tuple(y):
            weights = self._span.weights(tuple(x) + tuple(u))
            raise Quarrel(tuple([self.field.negative(number) for number in weights]) + (ONE,))
        return self

    def reply(self, x, u):
        """Return the known reply to (x, u), None if none is known."""
        check_row(self.field, "x", x, self.size)
        check_row(self.field, "u", u, self.inputs)
        weights = self._span.weights(tuple(x) + tuple(u))
        if weights is None:
            return None
        return row_table(self.field, weights, [y for _, _, y in self.kept], self.size)

    def known(self):
        """Return (space, table), None if some input has no known reply at the state 0.

        space tells the states with a known reply to input 0; table has these replies to its rows,
        then the replies to the unit inputs at state 0.
        """
        moved = self._input_replies()
        if None in moved:
            return None
        # With the inputs known, (x, 0) is known wherever (x, u) is for some input u.
        space = echelon_rows(self.field, self.size, [x for x, u, y in self.kept])
        return space, tuple(self._drift_replies(space) + moved)

    def closed(self, x):
        """Return the least space that holds x and all known replies to its states, None if some are not known."""
        check_row(self.field, "x", x, self.size)
        moved = self._input_replies()
        if None in moved:
            return None
        space = echelon_rows(self.field, self.size, [x] + moved)
        while True:
            drifted = self._drift_replies(space)
            if None in drifted:
                return None
            larger = echelon_rows(self.field, self.size, list(space) + drifted)
            if larger == space:
                return space
            space = larger

    def _stand(self, kept, span):
        # The span holds the z of the kept rows.
        self.kept = kept
        self.rank = len(kept)
        self._span = span

    def _input_replies(self):
        return [self.reply(zero_row(self.size), u) for u in unit_table(self.inputs)]

    def _drift_replies(self, space):
        return [self.reply(x, zero_row(self.inputs)) for x in space]


def check_asker(size, inputs):
    """Raise BadAsker if these are no numbers of states and inputs."""
    if not is_whole(size, 1, 4):
        raise BadAsker("size")
    if not is_whole(inputs, 1, 3):
        raise BadAsker("inputs")


def _span_of_new(field, size, inputs, kept):
    # The span of the rows' z, None if they are no rows or one of their z is not new.
    if not is_sequence(kept):
        return None
    span = Span(field, size + inputs)
    for row in kept:
        if not _is_heard_row(field, size, inputs, row):
            return None
        longer = span.with_row(tuple(row[0]) + tuple(row[1]))
        if longer.rank == span.rank:
            return None
        span = longer
    return span


def _is_heard_row(field, size, inputs, row):
    return (is_sequence(row, 3, 3) and field.holds_row(row[0], size) and field.holds_row(row[1], inputs)
            and field.holds_row(row[2], size))
