"""Spans of rows, and what they decide: systems of equations and inverses."""

from untaughthelm.echelons import Echelon
from untaughthelm.errors import BadRow, BadTable
from untaughthelm.ratios import ONE, ZERO, is_sequence, is_whole
from untaughthelm.rows import as_table, dot, row_times, turned, unit_table, zero_row


class Span:
    """Rows of one width, in the order in which they came, and what they span."""

    def __init__(self, field, width, rows=()):
        if not is_whole(width, 1, 60):
            raise BadTable("width")
        if not is_sequence(rows):
            raise BadTable("rows")
        self.field = field
        self.width = width
        for row in rows:
            self._check(row)
        self.rows = ()
        self.kept = ()
        self.rank = 0
        # It has the kept rows.
        self._echelon = Echelon(field, width)
        for row in as_table(rows):
            self._take(row)

    def __eq__(self, other):
        return (isinstance(other, Span) and self.field == other.field and self.width == other.width
                and self.rows == other.rows)

    def with_row(self, row):
        """Return the span of these rows and this one behind them."""
        self._check(row)
        span = Span(self.field, self.width)
        span.rows = self.rows
        span.kept = self.kept
        span.rank = self.rank
        span._echelon = self._echelon
        span._take(tuple(row))
        return span

    def is_new(self, row):
        """Return whether the row is no sum of multiples of the rows."""
        self._check(row)
        # In a full span no row is new, and to reduce one by it would be dear.
        return self.rank < self.width and self._echelon.is_new(row)

    def weights(self, row):
        """Return None if the row is new, otherwise one number for each of the rows.

        The rows times these numbers add up to the row; rows that are not kept have 0.
        """
        self._check(row)
        told = self._echelon.weights(row)
        if told is None:
            return None
        weights = list(zero_row(len(self.rows)))
        for place, number in zip(self.kept, told):
            weights[place] = number
        return tuple(weights)

    def echelon(self):
        """Return the reduced echelon rows of the span."""
        return self._echelon.reduced_rows()

    def silent_rows(self):
        """Return a basis of all rows whose dot with each row of the span is 0."""
        return self._echelon.silent_rows()

    def _check(self, row):
        if not self.field.holds_row(row, self.width):
            raise BadRow("row")

    def _take(self, row):
        larger = self._echelon.with_new(row) if self.rank < self.width else None
        if larger is not None:
            self._echelon = larger
            self.kept = self.kept + (len(self.rows),)
            self.rank = larger.rank
        self.rows = self.rows + (row,)


def solve(field, table, goal):
    """Return ("point", point) with table times point being goal, or ("none", weights) if no point does it.

    The dot of the weights with each column is 0 and with goal 1.
    """
    span = Span(field, len(table), turned(table))
    point = span.weights(goal)
    if point is not None:
        return "point", point
    # There always is one: a row on which all silent rows are silent would not be new.
    heard = [row for row in span.silent_rows() if dot(field, row, goal) != ZERO]
    scale = field.over(ONE, dot(field, heard[0], goal))
    return "none", row_times(field, scale, heard[0])


def inverse(field, table):
    """Return the inverse of a square table, None if it has none."""
    size = len(table)
    if size == 0:
        return ()
    span = Span(field, size, table)
    if span.rank < size:
        return None
    return tuple([span.weights(row) for row in unit_table(size)])


def echelon_rows(field, width, rows):
    """Return the reduced echelon rows of what some rows span."""
    return Span(field, width, rows).echelon()


def first_new(span, inputs, before, behind=()):
    """Return the first of the inputs 0, e1, .., em that makes a row new in the span, None if none does.

    The row is before, then the input, then behind.
    """
    for put in (zero_row(inputs),) + unit_table(inputs):
        if span.is_new(before + put + behind):
            return put
    return None


def silent_space(field, width, rows):
    """Return the reduced echelon rows of all rows whose dot with each of some rows is 0."""
    return echelon_rows(field, width, Span(field, width, rows).silent_rows())
