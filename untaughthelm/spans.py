"""Spans of rows, and what they decide: systems of equations and inverses."""

from untaughthelm.errors import BadRow, BadTable
from untaughthelm.ratios import ONE, ZERO, is_sequence, is_whole
from untaughthelm.rows import as_table, cleared, dot, lead_place, row_times, turned, unit_row, unit_table, zero_row


class Span:
    """Rows of one width, in the order in which they came, and what they span."""

    def __init__(self, field, width, rows=()):
        if not is_whole(width, 1, 60):
            raise BadTable("width")
        if not is_sequence(rows):
            raise BadTable("rows")
        self.field = field
        self.width = width
        for row in rows:
            self._check(row)
        self.rows = ()
        self.kept = ()
        self.rank = 0
        # Couples of a leading place and a reduced echelon row, by ascending place. Behind each
        # row stand the weights with which the kept rows add up to it, so that weights() can be
        # read off without a second elimination.
        self._reduced = ()
        for row in as_table(rows):
            self._take(row)

    def __eq__(self, other):
        return (isinstance(other, Span) and self.field == other.field and self.width == other.width
                and self.rows == other.rows)

    def with_row(self, row):
        """Return the span of these rows and this one behind them."""
        self._check(row)
        span = Span(self.field, self.width)
        span.rows = self.rows
        span.kept = self.kept
        span.rank = self.rank
        span._reduced = self._reduced
        span._take(tuple(row))
        return span

    def is_new(self, row):
        """Return whether the row is no sum of multiples of the rows."""
        self._check(row)
        return self.rank < self.width and lead_place(self._reduce(tuple(row))[:self.width]) is not None

    def weights(self, row):
        """Return None if the row is new, otherwise one number for each of the rows.

        The rows times these numbers add up to the row; rows that are not kept have 0.
        """
        self._check(row)
        long = self._reduce(tuple(row))
        if lead_place(long[:self.width]) is not None:
            return None
        weights = list(zero_row(len(self.rows)))
        for place, number in zip(self.kept, long[self.width:]):
            weights[place] = self.field.negative(number)
        return tuple(weights)

    def echelon(self):
        """Return the reduced echelon rows of the span."""
        return tuple([long[:self.width] for _, long in self._reduced])

    def silent_rows(self):
        """Return a basis of all rows whose dot with each row of the span is 0."""
        leads = [lead for lead, _ in self._reduced]
        return tuple([self._silent_row(place) for place in range(self.width) if place not in leads])

    def _silent_row(self, free):
        row = list(unit_row(self.width, free))
        for lead, long in self._reduced:
            row[lead] = self.field.negative(long[free])
        return tuple(row)

    def _check(self, row):
        if not self.field.holds_row(row, self.width):
            raise BadRow("row")

    def _reduce(self, row):
        # The row less what the reduced rows tell of it; behind it stand the weights of the kept
        # rows that were added to it on the way.
        long = row + zero_row(self.rank)
        for lead, other in self._reduced:
            long = cleared(self.field, long, lead, other)
        return long

    def _take(self, row):
        # A full span has no new rows, and to reduce one by it would be dear.
        if self.rank < self.width:
            self._keep_new(row)
        self.rows = self.rows + (row,)

    def _keep_new(self, row):
        long = self._reduce(row)
        lead = lead_place(long[:self.width])
        if lead is not None:
            long = row_times(self.field, self.field.over(ONE, long[lead]), long + (ONE,))
            reduced = [(place, cleared(self.field, other + (ZERO,), lead, long)) for place, other in self._reduced]
            reduced.append((lead, long))
            self._reduced = tuple(sorted(reduced, key=lambda couple: couple[0]))
            self.kept = self.kept + (len(self.rows),)
            self.rank = self.rank + 1


def solve(field, table, goal):
    """Return ("point", point) with table times point being goal, or ("none", weights) if no point does it.

    The dot of the weights with each column is 0 and with goal 1.
    """
    span = Span(field, len(table), turned(table))
    point = span.weights(goal)
    if point is not None:
        return "point", point
    # There always is one: a row on which all silent rows are silent would not be new.
    heard = [row for row in span.silent_rows() if dot(field, row, goal) != ZERO]
    scale = field.over(ONE, dot(field, heard[0], goal))
    return "none", row_times(field, scale, heard[0])


def inverse(field, table):
    """Return the inverse of a square table, None if it has none."""
    size = len(table)
    if size == 0:
        return ()
    span = Span(field, size, table)
    if span.rank < size:
        return None
    return tuple([span.weights(row) for row in unit_table(size)])


def echelon_rows(field, width, rows):
    """Return the reduced echelon rows of what some rows span."""
    return Span(field, width, rows).echelon()


def first_new(span, inputs, before, behind=()):
    """Return the first of the inputs 0, e1, .., em that makes a row new in the span, None if none does.

    The row is before, then the input, then behind.
    """
    for put in (zero_row(inputs),) + unit_table(inputs):
        if span.is_new(before + put + behind):
            return put
    return None


def silent_space(field, width, rows):
    """Return the reduced echelon rows of all rows whose dot with each of some rows is 0."""
    return echelon_rows(field, width, Span(field, width, rows).silent_rows())
