"""How a desk stands, and how a run goes on from there."""

from untaughthelm.boxes import Keeper
from untaughthelm.errors import Idle, LongRun, NoRun
from untaughthelm.lateasking import LateAsker
from untaughthelm.reaching import Reacher
from untaughthelm.schedules import pushed_reply

_MOST_TICKS = 60


class Stand:
    """A desk's plant, run, record and program on duty. It does not change any more once a desk shows it."""

    def __init__(self, record):
        self.field = record.field
        self.size = record.size
        self.inputs = record.inputs
        self.record = record
        self.hold_plant(None)

    def copied(self):
        """Return a Stand like this one, which may be changed yet."""
        other = Stand(self.record)
        other.plant = self.plant
        other.states = self.states
        other.puts = self.puts
        other.schedule = self.schedule
        other.pushes = self.pushes
        other.duty = self.duty
        return other

    def hold_plant(self, plant):
        """Hold the plant, without a run."""
        self.plant = plant
        self.states = ()
        self.puts = ()
        self.schedule = ()
        self.pushes = ()
        self.duty = None

    def begin_run(self, start):
        """Begin a run of the plant."""
        self.hold_plant(self.plant)
        self.states = (start,)
        self.schedule = ((0, self.plant),)

    def move_on(self, put):
        """Let the plant reply to the input."""
        reply = pushed_reply(self.plant, self.states[-1], put, len(self.puts), self.pushes)
        self.states = self.states + (reply,)
        self.puts = self.puts + (tuple(put),)


def check_run(stand):
    """Raise NoRun if there is no run."""
    if stand.states == ():
        raise NoRun()


def check_room(stand, ticks):
    """Raise LongRun if the run has no room for so many ticks."""
    if len(stand.puts) + ticks > _MOST_TICKS:
        raise LongRun()


def put_of(duty, state):
    """Return the input that the program on duty puts at the state; raises Idle if it puts none."""
    if isinstance(duty, Keeper):
        return duty.choose(state)
    if isinstance(duty, LateAsker):
        if duty.choice is None:
            raise Idle()
        return duty.choice
    word, put = duty.choice
    # A Changer goes on at rest, as its plant may be exchanged.
    if isinstance(duty, Reacher) and word in ("there", "never"):
        raise Idle()
    return put


def heard_by(duty, states):
    """Return the program on duty that has put its input and seen what it may see of the states of the run."""
    if isinstance(duty, Keeper):
        return duty
    if isinstance(duty, LateAsker):
        # States of before it went on duty are none of its own.
        return duty.hear(states[-1 - duty.late] if duty.tick + 1 >= duty.late else None)
    return duty.hear(states[-1])
