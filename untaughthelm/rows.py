"""Rows and tables of numbers of one field. These functions check nothing."""

from untaughthelm.ratios import ONE, ZERO


def as_table(rows):
    """Return rows as a tuple of tuples."""
    return tuple([tuple(row) for row in rows])


def row_of_rows(rows):
    """Return the numbers of some rows, one row behind another."""
    return tuple([number for row in rows for number in row])


def zero_row(width):
    """Return a row of zeros."""
    return (ZERO,) * width


def unit_row(width, place):
    """Return the row with 1 at the place and 0 elsewhere."""
    return tuple([ONE if at == place else ZERO for at in range(width)])


def unit_table(width):
    """Return all unit rows of this width, in order."""
    return tuple([unit_row(width, place) for place in range(width)])


def row_plus(field, one, other):
    """Return the sum of two rows, place by place."""
    return tuple([field.plus(left, right) for left, right in zip(one, other)])


def row_minus(field, one, other):
    """Return the difference of two rows, place by place."""
    return tuple([field.minus(left, right) for left, right in zip(one, other)])


def row_times(field, number, row):
    """Return the row with each of its numbers multiplied by the number."""
    return tuple([field.times(number, part) for part in row])


def dot(field, one, other):
    """Return the sum of the products of two rows, place by place."""
    total = ZERO
    for left, right in zip(one, other):
        total = field.plus(total, field.times(left, right))
    return total


def lead_place(row):
    """Return the first place at which the row is not 0, None if there is none."""
    for place, number in enumerate(row):
        if number != ZERO:
            return place
    return None


def cleared(field, row, place, by):
    """Return the row less the multiple of by, which has 1 at the place, that makes it 0 there."""
    if row[place] == ZERO:
        return row
    return row_minus(field, row, row_times(field, row[place], by))


def table_row(field, table, row):
    """Return the table times the row as a column."""
    return tuple([dot(field, line, row) for line in table])


def row_table(field, row, table, width=None):
    """Return the sum of the table's rows, each times the row's number at its place.

    width is the width of the result; it is needed only for a table of no rows.
    """
    total = zero_row(len(table[0]) if width is None else width)
    for number, line in zip(row, table):
        total = row_plus(field, total, row_times(field, number, line))
    return total


def table_table(field, one, other):
    """Return the product of two tables, the second one with at least one row."""
    return tuple([row_table(field, row, other) for row in one])


def table_plus(field, one, other):
    """Return the sum of two tables, place by place."""
    return tuple([row_plus(field, left, right) for left, right in zip(one, other)])


def turned(table):
    """Return the table whose rows are the columns of this one, which has at least one row."""
    return tuple(zip(*table))
