"""Whether one feedback law leads every plant that fits a record to rest."""

from untaughthelm.escapes import leading_table, plant_led
from untaughthelm.rows import row_table, table_row, table_table, turned
from untaughthelm.spans import Span, echelon_rows, inverse, silent_space
from untaughthelm.unlike import check_fits


class OneLaw:
    """A law that leads every plant that fits, down through these spaces, to rest."""

    def __init__(self, table, spaces):
        self.table = table
        self.spaces = spaces

    def __eq__(self, other):
        return isinstance(other, OneLaw) and self.table == other.table and self.spaces == other.spaces


class Silent:
    """A row that is 0 on all states of a record."""

    def __init__(self, row):
        self.row = row

    def __eq__(self, other):
        return isinstance(other, Silent) and self.row == other.row


class Shadow:
    """A plant that fits, with rows A = table rows and rows B = 0, the table with an inverse."""

    def __init__(self, plant, rows, table):
        self.plant = plant
        self.rows = rows
        self.table = table

    def __eq__(self, other):
        return (isinstance(other, Shadow) and self.plant == other.plant and self.rows == other.rows
                and self.table == other.table)


def one_law(record):
    """Return a OneLaw if one law leads every plant that fits to rest, otherwise a Silent or a Shadow."""
    check_fits(record)
    spaces = _spaces_led(record)
    if len(spaces[-1]) == record.size:
        return OneLaw(_table_down(record, spaces), spaces)
    states = [x for x, u, y in record.kept]
    silent = Span(record.field, record.size, states).silent_rows()
    if silent != ():
        return Silent(silent[0])
    rows = silent_space(record.field, record.size, spaces[-1])
    table = leading_table(record, rows)
    return Shadow(plant_led(record, rows, table), rows, table)


def _spaces_led(record):
    # The spaces N(0), N(1), .. up to the last one that is not equal to the one before it.
    states = [x for x, u, y in record.kept]
    spaces = [()]
    while len(spaces[-1]) < record.size:
        sums = [row_table(record.field, factors, states) for factors in _factors_into(record, spaces[-1])]
        space = echelon_rows(record.field, record.size, sums)
        if space == spaces[-1]:
            break
        spaces.append(space)
    return tuple(spaces)


def _factors_into(record, space):
    # A basis of all rows of factors, one for each kept row, with which the replies add up to
    # something in the space: on it all rows that are silent on the space are 0.
    if record.rank == 0:
        return ()
    silent = Span(record.field, record.size, space).silent_rows()
    heard = [table_row(record.field, silent, y) for x, u, y in record.kept]
    return Span(record.field, record.rank, turned(heard)).silent_rows()


def _table_down(record, spaces):
    # With factors whose states add up to x and whose inputs add up to u, each plant that fits
    # replies to (x, u) with the sum of the replies: so a law with K x = u leads x one space down.
    field = record.field
    states = [x for x, u, y in record.kept]
    inputs = [u for x, u, y in record.kept]
    span = Span(field, record.size)
    puts = []
    for space in spaces[:-1]:
        for factors in _factors_into(record, space):
            x = row_table(field, factors, states)
            if span.is_new(x):
                span = span.with_row(x)
                puts.append(row_table(field, factors, inputs))
    return turned(table_table(field, inverse(field, span.rows), puts))
