"""A program that leads a plant which it does not know to a goal, in the least number of ticks."""

from untaughthelm.asking import Asker
from untaughthelm.errors import BadReacher, NothingPut
from untaughthelm.fields import check_row
from untaughthelm.ratios import ONE, ZERO, is_sequence, is_whole
from untaughthelm.rows import dot, row_minus, unit_table, zero_row
from untaughthelm.spans import Span, solve
from untaughthelm.ways import Flat, inputs_to, way_back


class Never:
    """A space in which all replies are known, and for each number of ticks a row that keeps it from the goal."""

    def __init__(self, space, rows):
        self.space = space
        self.rows = rows

    def __eq__(self, other):
        return isinstance(other, Never) and self.space == other.space and self.rows == other.rows


class Reacher:
    """A program of a class, or of none (rank None), on its way from a start to a goal."""

    def __init__(self, field, size, inputs, rank, goal, start, *, first=None):
        _check_shape(size, inputs, rank)
        check_row(field, "goal", goal, size)
        if rank is None and tuple(goal) != zero_row(size):
            raise BadReacher("goal")
        check_row(field, "start", start, size)
        if first is not None:
            if not is_sequence(first, 2, 2):
                raise BadReacher("first")
            check_row(field, "u", first[0], inputs)
            check_row(field, "y", first[1], size)
        self.field = field
        self.size = size
        self.inputs = inputs
        self.rank = rank
        self.goal = tuple(goal)
        self.start = tuple(start)
        self.deadline = None if rank is None else reach_ticks(size, inputs, rank)
        asker = Asker(field, size, inputs)
        if first is None:
            self._stand(0, self.start, asker)
        else:
            self._stand(1, tuple(first[1]), asker.hear(start, first[0], first[1]))

    def __eq__(self, other):
        return (isinstance(other, Reacher) and self.field == other.field and self.size == other.size
                and self.inputs == other.inputs and self.rank == other.rank and self.goal == other.goal
                and self.start == other.start and self.deadline == other.deadline and self.tick == other.tick
                and self.state == other.state and self.kept == other.kept and self.choice == other.choice)

    def hear(self, y):
        """Return the Reacher that has put its choice's input and heard the reply y."""
        word, put = self.choice
        if word == "never":
            raise NothingPut()
        asker = self._asker.hear(self.state, put, y)
        heard = Reacher(self.field, self.size, self.inputs, self.rank, self.goal, self.start)
        heard._stand(self.tick + 1, tuple(y), asker)
        return heard

    def _stand(self, tick, state, asker):
        self.tick = tick
        self.state = state
        self.kept = asker.kept
        self._asker = asker
        self.choice = self._choose()

    def _choose(self):
        if self.state == self.goal:
            return "there", zero_row(self.inputs)
        ticks = self.size if self.deadline is None else max(0, self.deadline - self.tick)
        put = self._first_of_way(ticks)
        if put is not None:
            return "way", put
        put = self._asker.ask(self.state)
        if put is not None:
            return "ask", put
        space = self._asker.closed(self.state)
        return "never", Never(space, _rows_of_never(self._asker, self.state, self.goal, ticks))

    def _first_of_way(self, ticks):
        # The first input of the shortest way of at most so many ticks by known replies.
        flat = Flat(self.field, self.goal)
        for _ in range(ticks):
            before = way_back(self.field, self.kept, flat)
            if before is None:
                return None
            if before.holds(self.state):
                return inputs_to(self.field, self.inputs, self.kept, self.state, flat).point
            if before == flat:
                # More ticks add no more states.
                return None
            flat = before
        return None


def reach_ticks(size, inputs, rank):
    """Return the tick at which a Reacher of this class is at its goal at the latest."""
    return 2 * size + inputs - rank + 1


def never_fault(field, inputs, kept, state, goal, ticks, never):
    """Return None if a Never is right for so many ticks, otherwise the first word that applies."""
    size = len(state)
    asker = Asker(field, size, inputs, kept)
    span = Span(field, size, never.space)
    if span.is_new(state):
        return "space"
    replies = [asker.reply(x, zero_row(inputs)) for x in never.space] + _columns(asker)
    if None in replies:
        return "known"
    if any([span.is_new(reply) for reply in replies]):
        return "closed"
    if len(never.rows) != ticks:
        return "rows"
    equations = _equations(asker, state, goal, ticks)
    for row, (silent, missing) in zip(never.rows, equations):
        if any([dot(field, row, column) != ZERO for column in silent]) or dot(field, row, missing) != ONE:
            return "row"
    return None


def _check_shape(size, inputs, rank):
    if not is_whole(size, 1, 4):
        raise BadReacher("size")
    if not is_whole(inputs, 1, 3):
        raise BadReacher("inputs")
    if rank is not None and not is_whole(rank, 1, min(size, inputs)):
        raise BadReacher("rank")


def _columns(asker):
    return [asker.reply(zero_row(asker.size), u) for u in unit_table(asker.inputs)]


def _drifted(asker, x):
    return asker.reply(x, zero_row(asker.inputs))


def _equations(asker, state, goal, ticks):
    # For each number of ticks from 1 on the states that inputs add in so many ticks, and what the
    # drift alone lacks of the goal. Where all replies are known, more ticks than there are states
    # add no other sums.
    columns = _columns(asker)
    silent = []
    equations = []
    for tick in range(ticks):
        if tick < asker.size:
            silent = silent + columns
            columns = [_drifted(asker, column) for column in columns]
        state = _drifted(asker, state)
        equations.append((silent, row_minus(asker.field, goal, state)))
    return equations


def _rows_of_never(asker, state, goal, ticks):
    rows = []
    for silent, missing in _equations(asker, state, goal, ticks):
        _, row = solve(asker.field, silent + [missing], zero_row(len(silent)) + (ONE,))
        rows.append(row)
    return tuple(rows)
