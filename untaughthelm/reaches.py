"""What a known plant can reach: spaces of states, told by their reduced echelon rows."""

from untaughthelm.errors import BadTicks
from untaughthelm.fields import check_row
from untaughthelm.ratios import is_whole
from untaughthelm.rows import row_minus, row_table, table_row, table_table, turned, zero_row
from untaughthelm.spans import Span, echelon_rows, silent_space


def drift(plant, x, ticks):
    """Return the state behind so many ticks from the state x if every input is 0."""
    check_row(plant.field, "x", x, plant.size)
    _check_ticks(ticks)
    state = tuple(x)
    for _ in range(ticks):
        state = table_row(plant.field, plant.a, state)
    return state


def responses(plant, ticks):
    """Return the table that leads the inputs of so many ticks, in a row, to the state behind them from 0."""
    _check_ticks(ticks)
    table = ((),) * plant.size
    block = plant.b
    for tick in range(ticks):
        if tick > 0:
            block = table_table(plant.field, plant.a, block)
        table = tuple([block_row + row for block_row, row in zip(block, table)])
    return table


def reach(plant, ticks):
    """Return the space of the states that are reached from 0 in exactly so many ticks."""
    _check_ticks(ticks)
    # It stays from so many ticks on as there are states, and later powers of A only grow.
    columns = turned(responses(plant, min(ticks, plant.size)))
    return echelon_rows(plant.field, plant.size, columns)


def nulls(plant, ticks):
    """Return the space of the states from which 0 is reached in exactly so many ticks."""
    _check_ticks(ticks)
    space = ()
    for _ in range(min(ticks, plant.size)):
        # An input leads x into the space exactly if A x is a sum of its rows and of columns of B:
        # if all rows that are silent on these are silent on A x, too.
        silent = silent_space(plant.field, plant.size, space + turned(plant.b))
        drawn = [row_table(plant.field, row, plant.a) for row in silent]
        space = silent_space(plant.field, plant.size, drawn)
    return space


def hull(plant, start):
    """Return the least space that holds start and the columns of B, and with x also A x."""
    check_row(plant.field, "start", start, plant.size)
    space = echelon_rows(plant.field, plant.size, (start,) + turned(plant.b))
    # Each round adds a state or more, or else none will.
    for _ in range(plant.size):
        moved = tuple([table_row(plant.field, plant.a, x) for x in space])
        space = echelon_rows(plant.field, plant.size, space + moved)
    return space


def input_rank(plant):
    """Return the rank of B."""
    return Span(plant.field, plant.inputs, plant.b).rank


def longest(plant):
    """Return the least number of ticks in which all states are reached from 0, None if no number does."""
    for ticks in range(1, plant.size + 1):
        if len(reach(plant, ticks)) == plant.size:
            return ticks
    return None


def uncontrolled(plant):
    """Return None if the plant is controllable, otherwise the space of the rows that no input moves."""
    space = silent_space(plant.field, plant.size, reach(plant, plant.size))
    return None if space == () else space


def puts_to(plant, start, goal, ticks):
    """Return inputs that lead from start to goal in exactly so many ticks, None if there are none."""
    check_row(plant.field, "start", start, plant.size)
    check_row(plant.field, "goal", goal, plant.size)
    _check_ticks(ticks)
    missing = row_minus(plant.field, goal, drift(plant, start, ticks))
    point = Span(plant.field, plant.size, _first_columns(plant, ticks)).weights(missing)
    if point is None:
        return None
    return tuple([point[at:at + plant.inputs] for at in range(0, len(point), plant.inputs)])


def _first_columns(plant, ticks):
    # The columns of the responses, with zeros for those that are surely sums of the columns before
    # them, as large powers of A are dear to reduce: the columns of the first k ticks span what A
    # makes of the reach of k ticks in the ticks behind them, and that is the same space for every k
    # that leaves as many ticks as there are states on either side.
    early = plant.size * plant.inputs
    late = (ticks - plant.size) * plant.inputs
    columns = turned(responses(plant, ticks))
    return [zero_row(plant.size) if early <= place < late else column for place, column in enumerate(columns)]


def _check_ticks(ticks):
    if not is_whole(ticks, 0, 60):
        raise BadTicks(ticks)
