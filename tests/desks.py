"""Deeds that are drawn, and a desk of the tests' own that makes them from the first one on."""

from random import Random

from classes import drawn_row, plants_of_classes, rank_of_b
from exchanges import own_plant_at, own_scheduled, pushed_by
from sums import FRACTIONS, is_controllable, own_reply, packed_row
from untaughthelm.aheadrows import made_row
from untaughthelm.boxes import Bounds, Box, Keeper
from untaughthelm.changing import Changer
from untaughthelm.errors import BadDeed, BadRow, Idle, LongRun, NoDeed, NoDuty, NoPlant, NoRun, Quarrel
from untaughthelm.fields import Field
from untaughthelm.fits import Fit
from untaughthelm.keeping import keep
from untaughthelm.lateasking import LateAsker
from untaughthelm.plants import Plant
from untaughthelm.reaches import longest
from untaughthelm.reaching import Reacher
from untaughthelm.records import Record
from untaughthelm.rows import zero_row

WORDS = {"plant": 1, "begin": 1, "put": 1, "ahead": 0, "push": 1, "exchange": 1, "late": 1, "goal": 2, "rest": 2, "keep": 4,
         "tick": 0, "go on": 1, "row": 3, "cut": 2, "back": 0}
ATTRIBUTES = ("field", "size", "inputs", "plant", "states", "puts", "schedule", "pushes", "record", "duty", "deeds")


class OwnDesk:
    """A desk by the words of 16.1 to 16.4, without a past: "back" makes all other deeds anew."""

    def __init__(self, field, size, inputs):
        self.field, self.size, self.inputs = field, size, inputs
        self.plant, self.record, self.deeds = None, Record(field, size, inputs), ()
        self.clear()

    def clear(self):
        self.states = self.puts = self.schedule = self.pushes = ()
        self.duty, self.began = None, 0

    def stand(self):
        return tuple(getattr(self, name) for name in ATTRIBUTES)

    def copied(self):
        other = OwnDesk(self.field, self.size, self.inputs)
        for name in ATTRIBUTES + ("began",):
            setattr(other, name, getattr(self, name))
        return other

    def take(self, deed):
        if not isinstance(deed, (list, tuple)) or not deed or not isinstance(deed[0], str) or deed[0] not in WORDS:
            raise BadDeed("deed")
        if len(deed) != WORDS[deed[0]] + 1:
            raise BadDeed("deed")
        if deed[0] == "back":
            if not self.deeds:
                raise NoDeed()
            last, other = self.deeds[-1], OwnDesk(self.field, self.size, self.inputs)
            for before in self.deeds[:-1]:
                other.take(before)
            for name in ATTRIBUTES + ("began",):
                setattr(self, name, getattr(other, name))
            return last
        trial = self.copied()
        told = getattr(trial, "take_" + deed[0].replace(" ", "_"))(*deed[1:])
        rows = {"begin": (1,), "put": (1,), "push": (1,), "goal": (2,), "keep": (1,), "row": (1, 2, 3)}.get(deed[0], ())
        trial.deeds += (tuple(tuple(thing) if k in rows else thing for k, thing in enumerate(deed)),)
        for name in ATTRIBUTES + ("began",):
            setattr(self, name, getattr(trial, name))
        return told

    def need(self, row, width, what):
        if not self.field.holds_row(row, width):
            raise BadRow(what)
        return tuple(row)

    def need_run(self):
        if not self.states:
            raise NoRun()

    def need_plant(self, plant):
        if not isinstance(plant, Plant) or plant.field != self.field or (plant.size, plant.inputs) != (self.size, self.inputs):
            raise BadDeed("plant")

    def move(self, u):
        plant = own_plant_at(self.schedule, len(self.puts))
        y = pushed_by(self.field, own_reply(plant, self.states[-1], u), self.pushes, len(self.puts))
        self.states, self.puts = self.states + (y,), self.puts + (tuple(u),)

    def take_plant(self, plant):
        self.need_plant(plant)
        self.clear()
        self.plant = plant
        return longest(plant)

    def take_begin(self, start):
        if self.plant is None:
            raise NoPlant()
        start = self.need(start, self.size, "start")
        self.clear()
        self.states, self.schedule = (start,), ((0, self.plant),)
        return start

    def take_put(self, u):
        self.need_run()
        if len(self.puts) == 60:
            raise LongRun()
        self.need(u, self.inputs, "u")
        self.duty = None
        self.move(u)
        return self.states[-1]

    def take_ahead(self):
        self.need_run()
        row = made_row(self.field, self.size, self.inputs)
        if len(self.puts) + len(row) > 60:
            raise LongRun()
        self.duty = None
        for u in row:
            self.move(u)
        return self.states[-len(row):]

    def take_push(self, row):
        self.need_run()
        self.pushes += ((len(self.puts), self.need(row, self.size, "push")),)
        return self.pushes[-1][1]

    def take_exchange(self, plant):
        self.need_run()
        self.need_plant(plant)
        if self.schedule[-1][0] == len(self.puts):
            self.schedule = self.schedule[:-1]
        self.plant, self.schedule = plant, self.schedule + ((len(self.puts), plant),)
        return longest(plant)

    def on_duty(self, program):
        self.duty, self.began = program, len(self.puts)
        return program.choice

    def take_late(self, late):
        self.need_run()
        start = self.states[-1] if late == 0 and isinstance(late, int) and not isinstance(late, bool) else None
        return self.on_duty(LateAsker(self.field, self.size, self.inputs, late, start))

    def take_goal(self, rank, goal):
        self.need_run()
        return self.on_duty(Reacher(self.field, self.size, self.inputs, rank, goal, self.states[-1]))

    def take_rest(self, rank, pushed):
        self.need_run()
        return self.on_duty(Changer(self.field, self.size, self.inputs, rank, self.states[-1], pushed))

    def take_keep(self, pushes, wrong, box, bounds):
        if not isinstance(box, Box):
            raise BadDeed("box")
        if not isinstance(bounds, Bounds):
            raise BadDeed("bounds")
        told = keep(Fit(self.record, pushes, (), wrong), box, bounds)
        if isinstance(told, Keeper) and self.states:
            self.duty = told
        return told

    def take_tick(self):
        self.need_run()
        if self.duty is None:
            raise NoDuty()
        if len(self.puts) == 60:
            raise LongRun()
        duty = self.duty
        if isinstance(duty, Keeper):
            u = duty.choose(self.states[-1])
        elif isinstance(duty, LateAsker):
            u = duty.choice
        else:
            word, u = duty.choice
            if word == "never" or (word == "there" and isinstance(duty, Reacher)):
                u = None
        if u is None:
            raise Idle()
        self.move(u)
        try:
            if isinstance(duty, LateAsker):
                due = len(self.puts) - self.began - duty.late
                self.duty = duty.hear(self.states[self.began + due]) if due >= 0 else duty.hear()
            elif not isinstance(duty, Keeper):
                self.duty = duty.hear(self.states[-1])
        except Quarrel as quarrel:
            self.duty = None
            return u, self.states[-1], quarrel.weights
        return u, self.states[-1], None

    def take_go_on(self, ticks):
        if not isinstance(ticks, int) or isinstance(ticks, bool) or not 1 <= ticks <= 20:
            raise BadDeed("ticks")
        made = 0
        while made < ticks:
            try:
                self.take_tick()
            except ValueError:
                if made == 0:
                    raise
                break
            made += 1
        return made

    def take_row(self, x, u, y):
        self.record = self.record.with_row(x, u, y)
        return self.record.rank

    def take_cut(self, low, high):
        self.need_run()
        if not all(isinstance(end, int) and not isinstance(end, bool) for end in (low, high)):
            raise BadDeed("cut")
        if not 0 <= low <= high <= len(self.puts) or high - low > 30:
            raise BadDeed("cut")
        self.record = Record(self.field, self.size, self.inputs,
                             [(self.states[t], self.puts[t], self.states[t + 1]) for t in range(low, high)])
        return self.record.rank


def plants_for(prime, size, inputs):
    told = [plant for _, plant in plants_of_classes(prime, Field) if (plant.size, plant.inputs) == (size, inputs)]
    field = told[0].field
    still = Plant(field, told[0].a, [[(0, 1)] * inputs] * size)
    return told + [still]


class Drawer:
    """Draws deeds for desks of a field and of sizes; most of them can be made."""

    def __init__(self, prime, size, inputs, seed):
        self.source = Random(seed)
        self.field, self.size, self.inputs = Field(prime), size, inputs
        self.plants = plants_for(prime, size, inputs)

    def row(self, width):
        return drawn_row(self.field, self.source, width)

    def plant(self):
        return self.source.choice(self.plants)

    def begun(self):
        return [("plant", self.plant()), ("begin", self.row(self.size))]

    def on_duty(self):
        rank = self.source.randint(1, min(self.size, self.inputs))
        return self.source.choice([("late", self.source.randint(0, 6)), ("goal", rank, self.row(self.size)),
                                   ("goal", None, zero_row(self.size)), ("goal", rank, zero_row(self.size)),
                                   ("rest", rank, bool(self.source.randrange(2))), self.kept()])

    def kept(self):
        size, inputs = self.size, self.inputs
        scale = self.source.choice((3, 40, 1000))
        box = Box([(-scale, 1)] * size, [(scale, 1)] * size)
        bounds = Bounds([self.source.choice((None, (-50, 1)))] * inputs, [None] * inputs)
        pushes = packed_row(FRACTIONS, [self.source.randint(0, 1)] * size)
        return ("keep", pushes, self.source.choice((0, 0, 1)), box, bounds)

    def measured(self):
        """A deed that adds a row of a plant, in which one thing alone is not 0."""
        width = self.size + self.inputs
        z = [0] * width
        z[self.source.randrange(width)] = 1
        z = packed_row(self.field, z)
        return ("row", z[:self.size], z[self.size:], own_reply(self.plants[0], z[:self.size], z[self.size:]))

    def deed(self):
        kind = self.source.randrange(16)
        if kind == 0:
            return ("put", self.row(self.inputs))
        if kind == 1:
            return self.source.choice([("ahead",), ("plant", self.plant()), ("begin", self.row(self.size))])
        if kind in (2, 3):
            return ("push", self.row(self.size)) if self.source.randrange(2) else ("exchange", self.plant())
        if kind in (4, 5, 6):
            return self.on_duty()
        if kind in (7, 8, 9):
            return ("tick",)
        if kind in (10, 11):
            return ("go on", self.source.randint(1, 20 if self.size == 1 else 4))
        if kind == 12:
            return self.measured()
        if kind == 13:
            high = self.source.randint(0, 8)
            return ("cut", self.source.randint(0, high), high)
        if kind == 14:
            return ("back",)
        return self.source.choice([("begin", self.row(self.size)), ("tick",), ("back",), ("cut", 0, 5), ("late", 9),
                                   ("goal", 9, self.row(self.size)), ("go on", 0), ("put", ()), ("push", None), ("stay",)])


def told_by(desk, deed, call):
    """What a deed returns or raises, as a couple."""
    try:
        return "returned", call(deed)
    except ValueError as error:
        return type(error), error


def stand_of(desk):
    return tuple(getattr(desk, name) for name in ATTRIBUTES)


def is_of_class(plant, rank):
    """Whether a plant is controllable and its B has this rank or more."""
    return is_controllable(plant) and rank_of_b(plant) >= rank


def states_told(desk):
    return own_scheduled(desk.schedule, desk.states[0], desk.puts, desk.pushes)
