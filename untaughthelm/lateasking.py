"""A program that asks a plant whose replies are shown late."""

from untaughthelm.aheadrows import made_row
from untaughthelm.asking import Asker, check_asker
from untaughthelm.errors import BadAsker, NotShown
from untaughthelm.fields import check_row
from untaughthelm.learning import Learning
from untaughthelm.ratios import is_whole
from untaughthelm.rows import row_of_rows, zero_row
from untaughthelm.spans import Span, first_new


class LateAsker:
    """A program that is shown the state of a tick only when `late` inputs, that tick's first, have been put."""

    def __init__(self, field, size, inputs, late, start=None):
        _check_late(size, inputs, late)
        if not (start is None if late > 0 else field.holds_row(start, size)):
            raise BadAsker("start")
        self.field = field
        self.size = size
        self.inputs = inputs
        self.late = late
        self.start = None if start is None else tuple(start)
        states = () if start is None else (self.start,)
        self._stand((), states, Asker(field, size, inputs), Span(field, size + inputs * (late + 1)))

    def __eq__(self, other):
        return (isinstance(other, LateAsker) and self.field == other.field and self.size == other.size
                and self.inputs == other.inputs and self.late == other.late and self.puts == other.puts
                and self.states == other.states)

    def hear(self, shown=None):
        """Return the LateAsker that has put its choice and is shown a state behind it, or None if none is due."""
        due = self.tick + 1 >= self.late
        if self.choice is None or due == (shown is None):
            raise NotShown(self.tick)
        puts = self.puts + (self.choice,)
        states = self.states
        if due:
            check_row(self.field, "shown", shown, self.size)
            states = states + (tuple(shown),)
        asker = self.asker
        span = self._span
        if self.tick >= self.late:
            tick = self.tick - self.late
            asker = asker.hear(states[tick], puts[tick], states[tick + 1])
            if self.late <= self.size:
                span = span.with_row(self._long_row() + self.choice)
        heard = LateAsker(self.field, self.size, self.inputs, self.late, self.start)
        heard._stand(puts, states, asker, span)
        return heard

    def _stand(self, puts, states, asker, span):
        # The span holds the long rows of the ticks whose row was heard, if the choice is made by them.
        self.puts = puts
        self.states = states
        self.tick = len(puts)
        self.asker = asker
        self._span = span
        self.choice = self._choose()

    def _choose(self):
        if self.late > self.size:
            return self._written_ahead()
        if self.tick < self.late:
            return zero_row(self.inputs)
        return first_new(self._span, self.inputs, self._long_row())

    def _written_ahead(self):
        # Nothing is shown in time to ask by it, so the inputs are those that tell every plant.
        made = made_row(self.field, self.size, self.inputs)
        if self.tick < len(made):
            return made[self.tick]
        return zero_row(self.inputs) if self.tick < len(made) + self.late else None

    def _long_row(self):
        # The last state shown and the inputs from its tick on.
        tick = self.tick - self.late
        return self.states[tick] + row_of_rows(self.puts[tick:])


def learning_ticks(size, inputs, late):
    """Return how many rows are heard until a controllable plant is known."""
    _check_late(size, inputs, late)
    return size + inputs + inputs * min(late, size)


def learn_late(plant, start, late):
    """Return the Learning of a LateAsker that asks the plant from the start on until it puts nothing more."""
    check_row(plant.field, "start", start, plant.size)
    asker = LateAsker(plant.field, plant.size, plant.inputs, late, start if is_whole(late, 0, 0) else None)
    states = [tuple(start)]
    while asker.choice is not None:
        states.append(plant.step(states[-1], asker.choice))
        due = asker.tick + 1 - late
        asker = asker.hear(states[due] if due >= 0 else None)
    space, table = asker.asker.known()
    return Learning(asker.puts, asker.states, space, table)


def _check_late(size, inputs, late):
    check_asker(size, inputs)
    if not is_whole(late, 0, 6):
        raise BadAsker("late")
