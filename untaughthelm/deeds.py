"""The deeds of a desk: each takes how the desk stands, and returns how it stands behind it and what is told."""

from untaughthelm.aheadrows import made_row
from untaughthelm.boxes import Bounds, Box, Keeper
from untaughthelm.changing import Changer
from untaughthelm.errors import BadDeed, Idle, LongRun, NoDuty, NoPlant, Outside, Quarrel
from untaughthelm.fields import check_row
from untaughthelm.fits import Fit
from untaughthelm.keeping import keep
from untaughthelm.lateasking import LateAsker
from untaughthelm.ratios import is_whole
from untaughthelm.reaches import longest
from untaughthelm.reaching import Reacher
from untaughthelm.records import Record
from untaughthelm.schedules import is_like
from untaughthelm.stands import check_room, check_run, heard_by, put_of

_MOST_AT_ONCE = 20
_MOST_ROWS = 30


def take_plant(stand, plant):
    """Hold another plant."""
    _check_plant(stand, plant)
    after = stand.copied()
    after.hold_plant(plant)
    return after, longest(plant)


def take_begin(stand, start):
    """Begin a run."""
    if stand.plant is None:
        raise NoPlant()
    check_row(stand.field, "start", start, stand.size)
    after = stand.copied()
    after.begin_run(tuple(start))
    return after, tuple(start)


def take_put(stand, u):
    """Put an input by hand."""
    check_run(stand)
    check_room(stand, 1)
    check_row(stand.field, "u", u, stand.inputs)
    after = _put_by_hand(stand, [u])
    return after, after.states[-1]


def take_ahead(stand):
    """Put the inputs that tell every plant."""
    check_run(stand)
    puts = made_row(stand.field, stand.size, stand.inputs)
    check_room(stand, len(puts))
    after = _put_by_hand(stand, puts)
    return after, after.states[len(stand.states):]


def take_push(stand, row):
    """Push the reply of the present tick."""
    check_run(stand)
    check_row(stand.field, "push", row, stand.size)
    after = stand.copied()
    after.pushes = stand.pushes + ((len(stand.puts), tuple(row)),)
    return after, tuple(row)


def take_exchange(stand, plant):
    """Exchange the plant; nobody on duty is told."""
    check_run(stand)
    _check_plant(stand, plant)
    tick = len(stand.puts)
    after = stand.copied()
    after.plant = plant
    after.schedule = tuple([couple for couple in stand.schedule if couple[0] != tick]) + ((tick, plant),)
    return after, longest(plant)


def take_late(stand, late):
    """Let a LateAsker go on duty."""
    check_run(stand)
    start = stand.states[-1] if is_whole(late, 0, 0) else None
    return _with_duty(stand, LateAsker(stand.field, stand.size, stand.inputs, late, start))


def take_goal(stand, rank, goal):
    """Let a Reacher go on duty."""
    check_run(stand)
    return _with_duty(stand, Reacher(stand.field, stand.size, stand.inputs, rank, goal, stand.states[-1]))


def take_rest(stand, rank, pushed):
    """Let a Changer go on duty."""
    check_run(stand)
    return _with_duty(stand, Changer(stand.field, stand.size, stand.inputs, rank, stand.states[-1], pushed))


def take_keep(stand, pushes, wrong, box, bounds):
    """Let a Keeper of the box go on duty, if what the record tells lets one be and there is a run."""
    if not isinstance(box, Box):
        raise BadDeed("box")
    if not isinstance(bounds, Bounds):
        raise BadDeed("bounds")
    told = keep(Fit(stand.record, pushes, (), wrong), box, bounds)
    after = stand.copied()
    if isinstance(told, Keeper) and stand.states != ():
        after.duty = told
    return after, told


def take_tick(stand):
    """Let the program on duty put its input."""
    check_run(stand)
    if stand.duty is None:
        raise NoDuty()
    check_room(stand, 1)
    put = put_of(stand.duty, stand.states[-1])
    after = stand.copied()
    after.move_on(put)
    weights = None
    try:
        after.duty = heard_by(stand.duty, after.states)
    except Quarrel as quarrel:
        after.duty = None
        weights = quarrel.weights
    return after, (put, after.states[-1], weights)


def take_go_on(stand, ticks):
    """Let the program on duty go on for so many ticks, or as far as it can."""
    if not is_whole(ticks, 1, _MOST_AT_ONCE):
        raise BadDeed("ticks")
    after, _ = take_tick(stand)
    for made in range(1, ticks):
        try:
            after, _ = take_tick(after)
        except (NoDuty, LongRun, Idle, Outside):
            return after, made
    return after, ticks


def take_row(stand, x, u, y):
    """Add a row to the record."""
    after = stand.copied()
    after.record = stand.record.with_row(x, u, y)
    return after, after.record.rank


def take_cut(stand, low, high):
    """Make these ticks of the run the record."""
    check_run(stand)
    if not is_whole(high, 0, len(stand.puts)) or not is_whole(low, 0, high) or high - low > _MOST_ROWS:
        raise BadDeed("cut")
    rows = [(stand.states[tick], stand.puts[tick], stand.states[tick + 1]) for tick in range(low, high)]
    after = stand.copied()
    after.record = Record(stand.field, stand.size, stand.inputs, rows)
    return after, after.record.rank


def _check_plant(stand, plant):
    if not is_like(plant, stand.field, stand.size, stand.inputs):
        raise BadDeed("plant")


def _put_by_hand(stand, puts):
    after = stand.copied()
    after.duty = None
    for put in puts:
        after.move_on(put)
    return after


def _with_duty(stand, program):
    after = stand.copied()
    after.duty = program
    return after, program.choice


ACTIONS = {
    "plant": take_plant,
    "begin": take_begin,
    "put": take_put,
    "ahead": take_ahead,
    "push": take_push,
    "exchange": take_exchange,
    "late": take_late,
    "goal": take_goal,
    "rest": take_rest,
    "keep": take_keep,
    "tick": take_tick,
    "go on": take_go_on,
    "row": take_row,
    "cut": take_cut,
}
