"""Plants: x' = A x + B u."""

from untaughthelm.errors import BadPlant, BadRow, BadTable
from untaughthelm.fields import check_row, holds_rows
from untaughthelm.ratios import is_sequence
from untaughthelm.rows import as_table, row_plus, table_plus, table_row, table_table, unit_table
from untaughthelm.spans import inverse


class Plant:
    """A plant of tables a and b: the reply to the state x and the input u is A x + B u."""

    def __init__(self, field, a, b):
        if not is_sequence(a, 1, 4):
            raise BadPlant("size", 0)
        size = len(a)
        _check_rows(field, "a", a, size)
        if not is_sequence(b, size, size) or not is_sequence(b[0], 1, 3):
            raise BadPlant("inputs", 0)
        inputs = len(b[0])
        _check_rows(field, "b", b, inputs)
        self.field = field
        self.a = as_table(a)
        self.b = as_table(b)
        self.size = size
        self.inputs = inputs

    def __eq__(self, other):
        return (isinstance(other, Plant) and self.field == other.field
                and self.a == other.a and self.b == other.b)

    def step(self, x, u):
        """Return the reply to the state x and the input u."""
        check_row(self.field, "x", x, self.size)
        check_row(self.field, "u", u, self.inputs)
        return self._reply(x, u)

    def run(self, start, puts):
        """Return the states from the start on, the inputs being put one by one."""
        return tuple(self.steps(start, puts))

    def steps(self, start, puts):
        """Yield the states that run returns."""
        check_row(self.field, "start", start, self.size)
        if not holds_rows(self.field, puts, self.inputs):
            raise BadRow("puts")
        state = tuple(start)
        yield state
        for put in puts:
            state = self._reply(state, put)
            yield state

    def with_law(self, table):
        """Return the plant under the feedback law u = K x + v, K being the table."""
        if not holds_rows(self.field, table, self.size, self.inputs):
            raise BadTable("law")
        fed_back = table_table(self.field, self.b, table)
        return Plant(self.field, table_plus(self.field, self.a, fed_back), self.b)

    def mixed(self, table, input_table=None):
        """Return the plant in the coordinates y and v, where x = T y and u = S v.

        T is the table and S the input table, the unit table if that is None.
        """
        if input_table is None:
            input_table = unit_table(self.inputs)
        if not holds_rows(self.field, table, self.size, self.size):
            raise BadTable("table")
        if not holds_rows(self.field, input_table, self.inputs, self.inputs):
            raise BadTable("input_table")
        back = inverse(self.field, table)
        if back is None:
            raise BadPlant("mixed", 0)
        if inverse(self.field, input_table) is None:
            raise BadPlant("mixed", 1)
        a = table_table(self.field, back, table_table(self.field, self.a, table))
        b = table_table(self.field, back, table_table(self.field, self.b, input_table))
        return Plant(self.field, a, b)

    def _reply(self, x, u):
        return row_plus(self.field, table_row(self.field, self.a, x), table_row(self.field, self.b, u))


def _check_rows(field, what, table, width):
    for at, row in enumerate(table):
        if not field.holds_row(row, width):
            raise BadPlant(what, at)


def plant_of_rows(field, size, rows):
    """Return the plant of these rows, each a row of A with the row of B behind it."""
    return Plant(field, [row[:size] for row in rows], [row[size:] for row in rows])


def plant_plus(plant, row):
    """Return the plant with one row added to each row of A followed by B."""
    rows = [row_plus(plant.field, a_row + b_row, row) for a_row, b_row in zip(plant.a, plant.b)]
    return plant_of_rows(plant.field, plant.size, rows)
