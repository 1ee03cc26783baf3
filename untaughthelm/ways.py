"""Ways to a goal by known replies alone, told by flats: points and directions."""

from untaughthelm.rows import cleared, dot, lead_place, row_table, unit_table, zero_row
from untaughthelm.spans import Span, echelon_rows, solve


class Flat:
    """A point plus all sums of directions, in the one form that the set has."""

    def __init__(self, field, point, directions=()):
        self.field = field
        self.directions = echelon_rows(field, len(point), directions)
        self.point = _lowered(field, tuple(point), self.directions)

    def __eq__(self, other):
        return (isinstance(other, Flat) and self.field == other.field and self.point == other.point
                and self.directions == other.directions)

    def holds(self, row):
        """Return whether the row lies in the set."""
        return _lowered(self.field, tuple(row), self.directions) == self.point


def known_reply(field, kept, x, u):
    """Return the reply to (x, u) that the kept rows tell, None if they tell none."""
    zs = [tuple(state) + tuple(put) for state, put, y in kept]
    weights = Span(field, len(x) + len(u), zs).weights(tuple(x) + tuple(u))
    if weights is None:
        return None
    return row_table(field, weights, [y for state, put, y in kept], len(x))


def way_back(field, kept, flat):
    """Return the Flat of all states from which some input has a known reply in the flat, None if there are none."""
    return _sums_into(field, kept, [x for x, u, y in kept], len(flat.point), (), (), flat)


def ways(field, kept, goal, ticks):
    """Return for each number of ticks from 0 on the Flat of the states that known replies lead to the goal."""
    told = [Flat(field, goal)]
    for _ in range(ticks):
        told.append(None if told[-1] is None else way_back(field, kept, told[-1]))
    return tuple(told)


def inputs_to(field, inputs, kept, x, flat):
    """Return the Flat of all inputs that have a known reply in the flat at the state x, None if there are none."""
    states = [state for state, put, y in kept]
    return _sums_into(field, kept, [put for state, put, y in kept], inputs, states, x, flat)


def _sums_into(field, kept, rows, width, others, goal, flat):
    # The Flat of the sums of the rows, with factors with which the others add up to the goal and
    # the replies to something in the flat: on its directions all silent rows are 0.
    silent = Span(field, len(flat.point), flat.directions).silent_rows()
    asked = [[other[place] for other in others] for place in range(len(goal))]
    asked += [[dot(field, row, y) for x, u, y in kept] for row in silent]
    due = list(goal) + [dot(field, row, flat.point) for row in silent]
    factors = zero_row(len(kept))
    free = unit_table(len(kept))
    if asked:
        word, factors = solve(field, asked, due)
        if word == "none":
            return None
        free = Span(field, len(kept), asked).silent_rows() if kept else ()
    point = row_table(field, factors, rows, width)
    return Flat(field, point, [row_table(field, row, rows, width) for row in free])


def _lowered(field, row, directions):
    # The row with 0 in all leading places, changed along the directions alone.
    for direction in directions:
        row = cleared(field, row, lead_place(direction), direction)
    return row
