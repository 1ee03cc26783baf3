"""Foes that exchange their plant unseen, each time one step before it could be brought to rest."""

from untaughthelm.errors import BadFoe
from untaughthelm.ratios import is_whole
from untaughthelm.reachfoes import ReachFoe
from untaughthelm.rows import zero_row


class ChangeFoe:
    """A foe of a class that keeps every program from rest, exchange by exchange."""

    def __init__(self, field, size, inputs, rank, start, exchanges):
        # A size that is none is refused by the ReachFoe.
        goal = zero_row(size) if is_whole(size, 1, 4) else ()
        foe = ReachFoe(field, size, inputs, rank, start, goal)
        if not is_whole(exchanges, 0, 3):
            raise BadFoe("exchanges")
        self.field = field
        self.size = size
        self.inputs = inputs
        self.rank = rank
        self.start = foe.start
        self.exchanges = exchanges
        self._stand((), (foe.start,), ((0, foe),))

    def __eq__(self, other):
        return (isinstance(other, ChangeFoe) and self.field == other.field and self.size == other.size
                and self.inputs == other.inputs and self.rank == other.rank and self.start == other.start
                and self.exchanges == other.exchanges and self.puts == other.puts)

    def put(self, u):
        """Return the ChangeFoe that has replied to the input u."""
        begin, foe = self._foes[-1]
        foe = foe.put(u)
        foes = self._foes[:-1] + ((begin, foe),)
        # At the tick before its deadline a foe is still away from its goal.
        if foe.tick == foe.deadline - 1 and len(foes) <= self.exchanges:
            next_foe = ReachFoe(self.field, self.size, self.inputs, self.rank, foe.state, foe.goal)
            foes = foes + ((self.tick + 1, next_foe),)
        heard = ChangeFoe(self.field, self.size, self.inputs, self.rank, self.start, self.exchanges)
        heard._stand(self.puts + (tuple(u),), self.shown + (foe.state,), foes)
        return heard

    def tell_schedule(self):
        """Return the schedule of the plants, as each of them stands."""
        return tuple([(tick, foe.plant()) for tick, foe in self._foes])

    def _stand(self, puts, shown, foes):
        # The foes are couples of the tick at which one begins and the ReachFoe.
        self.puts = puts
        self.tick = len(puts)
        self.shown = shown
        self.state = shown[-1]
        self._foes = foes
