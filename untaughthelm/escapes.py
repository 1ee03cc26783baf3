"""Plants that fit a record and are not controllable, or the proof that there are none."""

from untaughthelm.plants import Plant
from untaughthelm.rows import dot, row_table, table_row, table_table, unit_table, zero_row
from untaughthelm.spans import Span, echelon_rows, inverse, solve
from untaughthelm.unlike import check_fits, fitting_plant


class Escape:
    """A plant that fits a record, with rows A = table rows and rows B = 0."""

    def __init__(self, plant, rows, table):
        self.plant = plant
        self.rows = rows
        self.table = table

    def __eq__(self, other):
        return (isinstance(other, Escape) and self.plant == other.plant and self.rows == other.rows
                and self.table == other.table)


def falling(record):
    """Return the chain of spaces of rows in which a plant that fits might keep them from its inputs."""
    check_fits(record)
    chain = [unit_table(record.size)]
    while chain[-1] != ():
        space = _fallen(record, chain[-1])
        if space == chain[-1]:
            break
        chain.append(space)
    return tuple(chain)


def find_escape(record):
    """Return None if all plants that fit the record are controllable, otherwise an Escape."""
    rows = falling(record)[-1]
    if rows == ():
        return None
    table = leading_table(record, rows)
    return Escape(plant_led(record, rows, table), rows, table)


def leading_table(record, rows):
    """Return a table with rows y = table rows x for each row (x, u, y) of the record; there must be one."""
    if record.rank == 0:
        return (zero_row(len(rows)),) * len(rows)
    seen = [table_row(record.field, rows, x) for x, u, y in record.kept]
    return tuple([_leading_row(record, seen, row) for row in rows])


def plant_led(record, rows, table):
    """Return a plant that fits the record with rows A = table rows and rows B = 0.

    The rows are independent, and the table is as leading_table returns it.
    """
    field = record.field
    plant = fitting_plant(record)
    span = Span(field, record.size, rows)
    for row in unit_table(record.size):
        if span.is_new(row):
            span = span.with_row(row)
    # The rows are led as told, the unit rows beside them as the fitting plant leads them.
    beside = span.rows[len(rows):]
    a = table_table(field, table, rows) + table_table(field, beside, plant.a)
    b = (zero_row(record.inputs),) * len(rows) + table_table(field, beside, plant.b)
    back = inverse(field, span.rows)
    return Plant(field, table_table(field, back, a), table_table(field, back, b))


def _fallen(record, space):
    # A silent row of these holds the factors of w and, behind them, those of -v, with w y = v x.
    field = record.field
    many = len(space)
    asked = [table_row(field, space, y) + table_row(field, space, x) for x, u, y in record.kept]
    factors = Span(field, 2 * many, asked).silent_rows()
    return echelon_rows(field, record.size, [row_table(field, row[:many], space) for row in factors])


def _leading_row(record, seen, row):
    due = [dot(record.field, row, y) for x, u, y in record.kept]
    _, point = solve(record.field, seen, due)
    return point
