"""Foes that keep every program from its goal: they build a plant of a class, reply by reply."""

from untaughthelm.errors import BadFoe, TooSmall
from untaughthelm.fields import check_row
from untaughthelm.plants import Plant
from untaughthelm.ratios import ONE, ZERO, is_whole
from untaughthelm.rows import lead_place, row_minus, row_plus, row_table, row_times, turned, unit_row, unit_table
from untaughthelm.rows import zero_row
from untaughthelm.spans import Span, inverse


class ReachFoe:
    """A plant of a class, as the inputs put so far make it; at no tick before its deadline it is at the goal."""

    def __init__(self, field, size, inputs, rank, start, goal):
        _check_shape(field, size, inputs, rank)
        _check_ends(field, size, start, goal)
        self.field = field
        self.size = size
        self.inputs = inputs
        self.rank = rank
        self.start = tuple(start)
        self.goal = tuple(goal)
        self.deadline = 2 * size + inputs - rank + 1
        self.basis = _basis_for(field, self.start)
        self._back = inverse(field, self.basis)
        self.eigenvalues = self._find_eigenvalues()
        # The states of the first ticks, which no input changes.
        self._first = self._drift_states(size)
        self._span = Span(field, size, self._first)
        self._stand((self.start,), (), (), (), None)

    def __eq__(self, other):
        # All else is told by these.
        return (isinstance(other, ReachFoe) and self.field == other.field and self.size == other.size
                and self.inputs == other.inputs and self.rank == other.rank and self.start == other.start
                and self.goal == other.goal and self.puts == other.puts)

    def put(self, u):
        """Return the ReachFoe that has replied to the input u."""
        check_row(self.field, "u", u, self.inputs)
        asked = self.asked
        images = self.images
        scale = self.scale
        reply = self._drifted(self.state)
        if self.tick >= self.size:
            beside = row_minus(self.field, u, self._fed_back(self.state))
            directions = Span(self.field, self.inputs, asked)
            if directions.is_new(beside):
                if len(asked) == self.inputs - 1:
                    scale = self._find_scale()
                images = images + (self._image(len(asked), scale),)
                asked = asked + (beside,)
                directions = directions.with_row(beside)
            moved = row_table(self.field, directions.weights(beside), images, self.size)
            reply = row_plus(self.field, reply, moved)
        heard = ReachFoe(self.field, self.size, self.inputs, self.rank, self.start, self.goal)
        heard._stand(self.states + (reply,), self.puts + (tuple(u),), asked, images, scale)
        return heard

    def plant(self):
        """Return the plant as it stands, what was not put filled in."""
        directions = Span(self.field, self.inputs, self.asked)
        images = list(self.images)
        for put in unit_table(self.inputs):
            if directions.is_new(put):
                directions = directions.with_row(put)
                images.append(self._image(len(images), ONE))
        columns = [row_table(self.field, directions.weights(put), images, self.size)
                   for put in unit_table(self.inputs)]
        a = []
        for x in unit_table(self.size):
            taken = row_table(self.field, self._fed_back(x), columns)
            a.append(row_minus(self.field, self._drifted(x), taken))
        return Plant(self.field, turned(a), turned(columns))

    def _stand(self, states, puts, asked, images, scale):
        self.states = states
        self.state = states[-1]
        self.puts = puts
        self.tick = len(puts)
        self.asked = asked
        self.images = images
        self.scale = scale

    def _parts(self, state):
        return row_table(self.field, state, self._back)

    def _tail(self, state):
        return self._parts(state)[self.rank - 1:]

    def _drifted(self, state):
        return row_table(self.field, _times_each(self.field, self.eigenvalues, self._parts(state)), self.basis)

    def _drift_states(self, many):
        states = [self.start]
        while len(states) < many:
            states.append(self._drifted(states[-1]))
        return states

    def _fed_back(self, state):
        # The law that takes each of the first states to the input put there, and to 0 if none was put.
        puts = self.puts[:self.size] + (zero_row(self.inputs),) * (self.size - self.tick)
        return row_table(self.field, self._span.weights(state), puts)

    def _image(self, place, scale):
        # What the direction asked at this place does to the state.
        free = self.inputs - self.rank
        if place < free:
            return zero_row(self.size)
        if place < self.inputs - 1:
            return self.basis[place - free]
        parts = zero_row(self.rank - 1) + (scale,) * (self.size - self.rank + 1)
        return row_table(self.field, parts, self.basis)

    def _find_eigenvalues(self):
        if self.field.prime is not None:
            return _ascending(self.field, 1, self.size)
        low = 2
        while self._meets_goal(low):
            low += 1
        return _ascending(self.field, low, self.size)

    def _meets_goal(self, low):
        # Whether the drift from the start comes to the goal's tail before the deadline.
        goal = self._tail(self.goal)
        eigenvalues = _ascending(self.field, low, self.size)[self.rank - 1:]
        tail = (ONE,) * len(goal)
        for _ in range(self.deadline - 1):
            tail = _times_each(self.field, eigenvalues, tail)
            if tail == goal:
                return True
        return False

    def _find_scale(self):
        number = 1
        while self._is_bad(self.field.number(number)):
            number += 1
        return self.field.number(number)

    def _is_bad(self, scale):
        # Whether with this scale inputs could lead to the goal's tail before the deadline.
        eigenvalues = self.eigenvalues[self.rank - 1:]
        goal = self._tail(self.goal)
        drifted = _times_each(self.field, eigenvalues, self._tail(self.state))
        moved = (ONE,) * len(goal)
        span = Span(self.field, len(goal))
        for _ in range(len(goal)):
            reached = row_plus(self.field, drifted, row_times(self.field, scale, moved))
            if span.weights(row_minus(self.field, reached, goal)) is not None:
                return True
            span = span.with_row(moved)
            drifted = _times_each(self.field, eigenvalues, drifted)
            moved = _times_each(self.field, eigenvalues, moved)
        return False


def _check_shape(field, size, inputs, rank):
    if not is_whole(size, 1, 4):
        raise BadFoe("size")
    if not is_whole(inputs, 1, 3):
        raise BadFoe("inputs")
    if not is_whole(rank, 1, min(size, inputs)):
        raise BadFoe("rank")
    if field.prime is not None and field.prime < max(3, size + 1):
        raise TooSmall(field.prime)


def _check_ends(field, size, start, goal):
    check_row(field, "start", start, size)
    if tuple(start) == zero_row(size):
        raise BadFoe("start")
    check_row(field, "goal", goal, size)
    if tuple(goal) == tuple(start):
        raise BadFoe("goal")
    if field.prime is not None and tuple(goal) != zero_row(size):
        raise TooSmall(field.prime)


def _basis_for(field, start):
    # Unit rows, but at the first place at which the start is not 0 what they all lack of the start.
    size = len(start)
    lead = lead_place(start)
    others = tuple([ZERO if place == lead else ONE for place in range(size)])
    rest = row_minus(field, start, others)
    return tuple([rest if place == lead else unit_row(size, place) for place in range(size)])


def _ascending(field, low, many):
    return tuple([field.number(low + place) for place in range(many)])


def _times_each(field, one, other):
    return tuple([field.times(left, right) for left, right in zip(one, other)])
