"""Systems of equations and spaces, solved by the elimination of the tests' own."""

from sums import echelon_of, lies_in, own_reply, packed_row
from untaughthelm.rows import unit_table, zero_row

ZERO = (0, 1)
ONE = (1, 1)


def lead_of(row):
    return [number != ZERO for number in row].index(True)


def solved(field, equations, due):
    """The row whose dots with the equations are due, 0 at the free unknowns; None if there is none."""
    width = len(equations[0])
    point = [ZERO] * width
    for row in echelon_of(field, [tuple(equation) + (number,) for equation, number in zip(equations, due)]):
        if lead_of(row) == width:
            return None
        point[lead_of(row)] = row[width]
    return tuple(point)


def silent_on(field, width, rows):
    """A basis of all rows that are 0 on some rows, one for each free place, by ascending place."""
    lines = echelon_of(field, rows)
    leads = [lead_of(line) for line in lines]
    basis = []
    for free in range(width):
        if free not in leads:
            row = [ZERO] * width
            row[free] = ONE
            for lead, line in zip(leads, lines):
                row[lead] = field.negative(line[free])
            basis.append(tuple(row))
    return tuple(basis)


def weights_in(field, rows, row):
    """The numbers with which rows add up to a row, 0 at each that is a sum of those before it; None if none do."""
    if not rows:
        return () if not any(top for top, _ in row) else None
    return solved(field, list(zip(*rows)), row)


def first_new_of(field, inputs, rows, before, behind=()):
    """The first of 0, e1, .., em with which the long row is no sum of the rows, None if none is."""
    for put in (zero_row(inputs),) + unit_table(inputs):
        long = tuple(before) + put + tuple(behind)
        if long != zero_row(len(long)) and not lies_in(field, list(rows), long):
            return put
    return None


def hull_of(plant, start):
    """The least space with the start and the columns of B that A keeps."""
    rows = [tuple(start)] + [own_reply(plant, zero_row(plant.size), u) for u in unit_table(plant.inputs)]
    space = echelon_of(plant.field, rows)
    while True:
        moved = [own_reply(plant, x, zero_row(plant.inputs)) for x in space]
        larger = echelon_of(plant.field, list(space) + moved)
        if larger == space:
            return space
        space = larger


def starts_of(field, size):
    """The state 0, a unit row, a row of ones and one of unlike numbers."""
    return (zero_row(size), (ZERO,) * (size - 1) + (ONE,), (ONE,) * size,
            packed_row(field, [3, -2, 5, 4][:size]))
