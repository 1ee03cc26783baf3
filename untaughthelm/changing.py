"""A program that brings a plant to rest which it does not know, and which is exchanged and pushed unseen."""

from untaughthelm.errors import BadChanger, Quarrel
from untaughthelm.fields import check_row
from untaughthelm.ratios import is_whole
from untaughthelm.reaching import Reacher
from untaughthelm.rows import zero_row


class Stretch:
    """Ticks of one Reacher: from its begin to the begin of the next one, and why it ended."""

    def __init__(self, begin, end, why):
        self.begin = begin
        self.end = end
        self.why = why

    def __eq__(self, other):
        return (isinstance(other, Stretch) and self.begin == other.begin and self.end == other.end
                and self.why == other.why)


class Changer:
    """A program of a class that begins anew wherever what it has seen shows another plant."""

    def __init__(self, field, size, inputs, rank, start, pushed=False):
        _check_class(size, inputs, rank)
        check_row(field, "start", start, size)
        if not isinstance(pushed, bool):
            raise BadChanger("pushed")
        self.field = field
        self.size = size
        self.inputs = inputs
        self.rank = rank
        self.start = tuple(start)
        self.pushed = pushed
        self._stand((), 0, (), self._new_reacher(self.start))

    def __eq__(self, other):
        return (isinstance(other, Changer) and self.field == other.field and self.size == other.size
                and self.inputs == other.inputs and self.rank == other.rank and self.start == other.start
                and self.pushed == other.pushed and self.heard == other.heard)

    def hear(self, y):
        """Return the Changer that has put its choice's input and heard the reply y."""
        check_row(self.field, "y", y, self.size)
        begin = self.begin
        stretches = self.stretches
        try:
            reacher = self._reacher.hear(y)
        except Quarrel:
            begin, reacher = self._behind_quarrel(tuple(y))
            stretches = stretches + (Stretch(self.begin, begin, "quarrel"),)
        if reacher.choice[0] == "never":
            stretches = stretches + (Stretch(begin, self.tick + 1, "lost"),)
            begin = self.tick + 1
            reacher = self._new_reacher(reacher.state)
        heard = Changer(self.field, self.size, self.inputs, self.rank, self.start, self.pushed)
        heard._stand(self.heard + (tuple(y),), begin, stretches, reacher)
        return heard

    def _stand(self, heard, begin, stretches, reacher):
        self.heard = heard
        self.tick = len(heard)
        self.begin = begin
        self.stretches = stretches
        self.state = reacher.state
        self.choice = reacher.choice
        self._reacher = reacher

    def _behind_quarrel(self, y):
        # Where pushes are possible, or at rest, the row may be a push and tells nothing of the plant.
        if self.pushed or self.state == zero_row(self.size):
            return self.tick + 1, self._new_reacher(y)
        return self.tick, self._new_reacher(self.state, (self.choice[1], y))

    def _new_reacher(self, state, first=None):
        goal = zero_row(self.size)
        return Reacher(self.field, self.size, self.inputs, self.rank, goal, state, first=first)


def rest_ticks(size, inputs, rank, exchanges):
    """Return the tick from which a Changer is at rest on plants of its class, if there are so many exchanges."""
    _check_class(size, inputs, rank)
    _check_many("exchanges", exchanges)
    return (exchanges + 1) * (2 * size + inputs - rank) + 1


def unrest_ticks(size, inputs, rank, exchanges, pushes):
    """Return at how many ticks at most a Changer is not at rest, if there are so many exchanges and pushes."""
    _check_class(size, inputs, rank)
    _check_many("exchanges", exchanges)
    _check_many("pushes", pushes)
    return (exchanges + pushes + 1) * (2 * size + inputs - rank + 1)


def _check_class(size, inputs, rank):
    if not is_whole(size, 1, 4):
        raise BadChanger("size")
    if not is_whole(inputs, 1, 3):
        raise BadChanger("inputs")
    if not is_whole(rank, 1, min(size, inputs)):
        raise BadChanger("rank")


def _check_many(what, many):
    if not is_whole(many, 0, 60):
        raise BadChanger(what)
