import unittest
from functools import lru_cache

from desks import ATTRIBUTES, WORDS, Drawer, OwnDesk, stand_of, states_told, told_by
from kinds import check_all_unlike, check_equal, check_result, check_unlike
from sums import FRACTIONS, NO_ROWS, all_tuples, plant_of, raised, wholes
from timing import KINDS, Timed, long_whole
from untaughthelm.boxes import Bounds, Box, Keeper
from untaughthelm.changing import Changer
from untaughthelm.desk import Desk, retell_story
from untaughthelm.errors import BadAsker, BadBounds, BadBox, BadChanger, BadDeed, BadDesk, BadFit, BadReacher, BadRecord, BadRow
from untaughthelm.errors import Idle, LongRun, MixedFields, NoDeed, NoDuty, NoFit, NoPlant, NoRun, Outside
from untaughthelm.fields import Field
from untaughthelm.keeping import Lost
from untaughthelm.lateasking import LateAsker
from untaughthelm.plants import Plant
from untaughthelm.reaching import Reacher
from untaughthelm.records import Record
from untaughthelm.rows import zero_row
from untaughthelm.stories import Story

ZERO = (0, 1)
ONE = (1, 1)
# x' = 2 x + u, and others.
DOUBLE = plant_of(FRACTIONS, [[2]], [[1]])
TRIPLE = plant_of(FRACTIONS, [[3]], [[1]])
STILL = plant_of(FRACTIONS, [[2]], [[0]])
FREE = Bounds([None], [None])
UNIT = Box(wholes(-1), wholes(1))
OF_DOUBLE = (("row", wholes(1), wholes(0), wholes(2)), ("row", wholes(0), wholes(1), wholes(1)))
KEEP = ("keep", ((1, 10),), 0, UNIT, FREE)
BEGUN = (("plant", DOUBLE), ("begin", wholes(1)))


def desk_with(*deeds):
    desk = Desk(FRACTIONS, 1, 1)
    for deed in deeds:
        desk.take_deed(deed)
    return desk


@lru_cache(None)
def sessions():
    """For desks of several fields and sizes deeds that are drawn, and what the tests' own desk says of each."""
    told = []
    for prime, size, inputs, times in ((None, 1, 1, 60), (None, 2, 1, 20), (None, 1, 2, 20), (None, 2, 2, 12), (None, 3, 3, 6),
                                       (2, 1, 1, 12), (2, 2, 2, 12), (3, 2, 1, 12), (7, 4, 3, 8), (97, 3, 2, 10)):
        for seed in range(times):
            drawer = Drawer(prime, size, inputs, seed)
            deeds = (drawer.begun() if seed % 5 else []) + [drawer.deed() for _ in range(30)]
            if seed % 3 == 0 and prime is None:
                deeds[2:2] = [drawer.measured() for _ in range(size + inputs)]
            told.append((drawer.field, size, inputs, tuple(deeds)))
    return tuple(told)


class Making(unittest.TestCase):
    def test_story(self):
        check_result(self, Story, ("field", "size", "inputs", "deeds"))

    def test_errors(self):
        for size in (0, 5, None, True, "1", ONE):
            self.assertEqual(raised(Desk, FRACTIONS, size, None), (BadDesk, ("size",)))
        for inputs in (0, 4, None, True, "1", ONE):
            self.assertEqual(raised(Desk, FRACTIONS, 4, inputs), (BadDesk, ("inputs",)))

    def test_at_first(self):
        for prime in (None, 2, 97):
            for size in (1, 2, 3, 4):
                for inputs in (1, 2, 3):
                    desk = Desk(field=Field(prime), size=size, inputs=inputs)
                    self.assertEqual(stand_of(desk), (Field(prime), size, inputs, None, (), (), (), (),
                                                      Record(Field(prime), size, inputs), None, ()))
                    self.assertTrue(set(ATTRIBUTES) <= set(vars(desk)))
                    self.assertEqual(desk.tell_story(), Story(Field(prime), size, inputs, ()))

    def test_equality(self):
        things = [Desk(FRACTIONS, 1, 1), Desk(Field(7), 1, 1), Desk(FRACTIONS, 2, 1), Desk(FRACTIONS, 1, 2),
                  desk_with(BEGUN[0]), desk_with(*BEGUN), desk_with(("plant", TRIPLE)), desk_with(*BEGUN, ("put", wholes(0))),
                  desk_with(*BEGUN, ("put", wholes(1))), Story(FRACTIONS, 1, 1, ()), Record(FRACTIONS, 1, 1)]
        check_all_unlike(self, things)
        check_equal(self, desk_with(["plant", DOUBLE], ["begin", [ONE]]), things[5])
        # They stand alike, but by other deeds.
        check_unlike(self, desk_with(*BEGUN, ("cut", 0, 0)), things[5])


class Deeds(unittest.TestCase):
    def test_drawn_deeds(self):
        words = {}
        for field, size, inputs, deeds in sessions():
            desk, own = Desk(field, size, inputs), OwnDesk(field, size, inputs)
            for deed in deeds:
                before = stand_of(desk)
                told = told_by(desk, deed, desk.take_deed)
                self.assertEqual(told, told_by(own, deed, own.take), deed)
                self.assertEqual(stand_of(desk), own.stand(), deed)
                if told[0] != "returned":
                    self.assertEqual(stand_of(desk), before)
                elif deed[0] != "keep":
                    self.assertTrue(isinstance(told[1], tuple) or not isinstance(told[1], list))
                words.setdefault(deed[0], set()).add(told[0])
                if desk.states:
                    self.assertEqual(states_told(desk), desk.states)
                self.assertEqual(desk.tell_story(), Story(field, size, inputs, desk.deeds))
        self.assertEqual(set(words), set(WORDS) | {"stay"})
        for word in WORDS:
            self.assertIn("returned", words[word])
        self.assertTrue({NoDuty, Idle} <= words["tick"], words["tick"])

    def test_retold(self):
        for field, size, inputs, deeds in sessions():
            desk = Desk(field, size, inputs)
            for deed in deeds:
                told_by(desk, deed, desk.take_deed)
            other = retell_story(desk.tell_story())
            check_equal(self, desk, other)
            self.assertEqual(stand_of(other), stand_of(desk))
            self.assertIsNot(other, desk)

    def test_all_back(self):
        for field, size, inputs, deeds in sessions()[::4]:
            desk, stands = Desk(field, size, inputs), []
            for deed in deeds:
                before = stand_of(desk)
                if deed[0] != "back" and told_by(desk, deed, desk.take_deed)[0] == "returned":
                    stands.append(before)
            while stands:
                last = desk.deeds[-1]
                self.assertEqual(desk.take_deed(("back",)), last)
                self.assertEqual(stand_of(desk), stands.pop())
            self.assertEqual(raised(desk.take_deed, ("back",)), (NoDeed, ()))
            self.assertEqual(stand_of(desk), stand_of(Desk(field, size, inputs)))

    def test_things_that_are_no_deeds(self):
        desk = desk_with(*BEGUN)
        before = stand_of(desk)
        for deed in (None, 3, "tick", "", {}, {"tick": 1}, {"tick"}, (), [], (None,), (3,), (("tick",),), (["tick"],), ("",), ("Tick",),
                     ("tick ",), ("go",), ("desk", 1), (b"tick",), (True,), ({},)):
            self.assertEqual(raised(desk.take_deed, deed), (BadDeed, ("deed",)))
        for word, many in WORDS.items():
            for other in range(6):
                if other != many:
                    for kind in (tuple, list):
                        self.assertEqual(raised(desk.take_deed, kind([word] + [None] * other)), (BadDeed, ("deed",)))
                        self.assertEqual(raised(desk.take_deed, kind([word] + [DOUBLE] * other)), (BadDeed, ("deed",)))
        self.assertEqual(stand_of(desk), before)

    def test_deeds_are_kept_as_tuples(self):
        desk = Desk(FRACTIONS, 1, 1)
        given = [["plant", DOUBLE], ["begin", [ONE]], ["put", [ONE]], ["push", [ONE]], ["goal", 1, [ZERO]], ["rest", 1, False],
                 ["row", [ONE], [ZERO], [ONE]], ["keep", [ONE], 0, UNIT, FREE], ["tick"], ["cut", 0, 1], ["ahead"], ["late", 2]]
        kept = [list(deed) for deed in given]
        for deed in given:
            desk.take_deed(deed)
        self.assertEqual(given, kept)
        self.assertEqual(desk.deeds, (
            ("plant", DOUBLE), ("begin", (ONE,)), ("put", (ONE,)), ("push", (ONE,)), ("goal", 1, (ZERO,)), ("rest", 1, False),
            ("row", (ONE,), (ZERO,), (ONE,)), ("keep", (ONE,), 0, UNIT, FREE), ("tick",), ("cut", 0, 1), ("ahead",), ("late", 2)))
        before = stand_of(desk)
        for deed in given:
            for thing in deed:
                if isinstance(thing, list):
                    thing[0] = (9, 1)
            deed[:] = ["back"]
        self.assertEqual(stand_of(desk), before)
        self.assertTrue(all_tuples((desk.states, desk.puts, desk.pushes, desk.record.rows)))
        self.assertEqual(desk.take_deed(["back"]), ("late", 2))


class ByHand(unittest.TestCase):
    def check(self, desk, deed, due):
        """What a deed raises, and that all stays as it was."""
        before = stand_of(desk)
        self.assertEqual(raised(desk.take_deed, deed), due)
        self.assertEqual(raised(desk.take_deed, list(deed)), due)
        self.assertEqual(stand_of(desk), before)

    def no_run(self, *deeds):
        for desk in (Desk(FRACTIONS, 1, 1), desk_with(BEGUN[0]), desk_with(*BEGUN, ("plant", TRIPLE))):
            for deed in deeds:
                self.check(desk, deed, (NoRun, ()))

    def test_plant(self):
        desk = Desk(FRACTIONS, 1, 1)
        for plant in (None, 3, "plant", plant_of(Field(7), [[2]], [[1]]), plant_of(FRACTIONS, [[2]], [[1, 1]]),
                      plant_of(FRACTIONS, [[2, 0], [0, 2]], [[1], [1]]), [DOUBLE], UNIT):
            self.check(desk, ("plant", plant), (BadDeed, ("plant",)))
        self.assertEqual(desk.take_deed(("plant", DOUBLE)), 1)
        self.assertIs(desk.take_deed(("plant", STILL)), None)
        two = Desk(FRACTIONS, 2, 1)
        self.assertEqual(two.take_deed(("plant", plant_of(FRACTIONS, [[0, 1], [0, 0]], [[0], [1]]))), 2)
        desk = desk_with(*OF_DOUBLE, *BEGUN, ("push", wholes(3)), ("rest", 1, False), ("plant", TRIPLE))
        self.assertEqual(stand_of(desk)[3:8], (TRIPLE, (), (), (), ()))
        self.assertEqual((len(desk.record), desk.duty), (2, None))

    def test_begin(self):
        self.check(Desk(FRACTIONS, 1, 1), ("begin", None), (NoPlant, ()))
        desk = desk_with(BEGUN[0])
        for row in NO_ROWS + (wholes(1, 2),):
            if not FRACTIONS.holds_row(row, 1):
                self.check(desk, ("begin", row), (BadRow, ("start",)))
        self.assertEqual(desk.take_deed(("begin", [ONE])), wholes(1))
        self.assertEqual(stand_of(desk)[3:8], (DOUBLE, (wholes(1),), (), ((0, DOUBLE),), ()))
        # Behind an exchange it is the new plant's run.
        desk = desk_with(*OF_DOUBLE, *BEGUN, ("put", wholes(0)), ("exchange", TRIPLE), ("push", wholes(3)), ("late", 0))
        self.assertEqual(desk.take_deed(("begin", wholes(4))), wholes(4))
        self.assertEqual(stand_of(desk)[3:8], (TRIPLE, (wholes(4),), (), ((0, TRIPLE),), ()))
        self.assertEqual((len(desk.record), desk.duty), (2, None))

    def test_put(self):
        self.no_run(("put", wholes(1)), ("put", None))
        desk = desk_with(*BEGUN, ("late", 0))
        for row in (None, 3, (), wholes(1, 2), (1,), ((2, 4),)):
            self.check(desk, ("put", row), (BadRow, ("u",)))
        self.assertIsNot(desk.duty, None)
        self.assertEqual(desk.take_deed(("put", [ONE])), wholes(3))
        self.assertEqual((desk.states, desk.puts, desk.duty), ((wholes(1), wholes(3)), (wholes(1),), None))
        desk = desk_with(*BEGUN, *[("put", wholes(0))] * 60)
        self.assertEqual((len(desk.puts), desk.states[-1]), (60, ((2 ** 60, 1),)))
        self.check(desk, ("put", wholes(0)), (LongRun, ()))
        self.check(desk, ("put", None), (LongRun, ()))

    def test_ahead(self):
        self.no_run(("ahead",))
        desk = desk_with(*BEGUN, ("goal", 1, wholes(0)))
        self.assertEqual(desk.take_deed(("ahead",)), (wholes(2), wholes(5), wholes(10)))
        self.assertEqual((desk.puts, desk.duty), ((wholes(0), wholes(1), wholes(0)), None))
        desk = desk_with(*BEGUN, *[("put", wholes(0))] * 57)
        self.assertEqual(len(desk.take_deed(("ahead",))), 3)
        self.check(desk, ("ahead",), (LongRun, ()))
        for many in (58, 59, 60):
            self.check(desk_with(*BEGUN, *[("put", wholes(0))] * many, *[("rest", 1, True)]), ("ahead",), (LongRun, ()))

    def test_push(self):
        self.no_run(("push", wholes(1)), ("push", None))
        desk = desk_with(*BEGUN, ("rest", 1, False))
        for row in (None, (), wholes(1, 2), ((2, 4),)):
            self.check(desk, ("push", row), (BadRow, ("push",)))
        self.assertEqual(desk.take_deed(("push", [ONE])), wholes(1))
        self.assertEqual(desk.take_deed(("push", wholes(5))), wholes(5))
        self.assertEqual((desk.pushes, desk.states), (((0, wholes(1)), (0, wholes(5))), (wholes(1),)))
        self.assertIsInstance(desk.duty, Changer)
        self.assertEqual(desk.take_deed(("tick",)), (wholes(0), wholes(8), None))
        self.assertEqual(desk.take_deed(("put", wholes(0))), wholes(16))
        desk = desk_with(*BEGUN, *[("put", wholes(0))] * 60, ("push", wholes(1)))
        self.assertEqual(desk.pushes, ((60, wholes(1)),))

    def test_exchange(self):
        self.no_run(("exchange", DOUBLE), ("exchange", None))
        desk = desk_with(*BEGUN, ("rest", 1, False))
        for plant in (None, 3, plant_of(Field(7), [[2]], [[1]]), plant_of(FRACTIONS, [[2]], [[1, 1]])):
            self.check(desk, ("exchange", plant), (BadDeed, ("plant",)))
        self.assertEqual(desk.take_deed(("exchange", TRIPLE)), 1)
        self.assertEqual((desk.schedule, desk.plant), (((0, TRIPLE),), TRIPLE))
        self.assertIsInstance(desk.duty, Changer)
        desk.take_deed(("tick",))
        self.assertEqual(desk.states[-1], wholes(3))
        self.assertIs(desk.take_deed(("exchange", STILL)), None)
        self.assertEqual(desk.schedule, ((0, TRIPLE), (1, STILL)))
        desk.take_deed(("exchange", DOUBLE))
        self.assertEqual((desk.schedule, desk.plant), (((0, TRIPLE), (1, DOUBLE)), DOUBLE))
        desk.take_deed(("put", wholes(1)))
        self.assertEqual(desk.states[-1], wholes(7))

    def test_late(self):
        self.no_run(("late", 0), ("late", None))
        desk = desk_with(*BEGUN)
        for late in (7, -1, None, True, False, "0", ZERO):
            self.check(desk, ("late", late), (BadAsker, ("late",)))
        self.assertEqual(desk.take_deed(("late", 0)), wholes(0))
        self.assertEqual(desk.duty, LateAsker(FRACTIONS, 1, 1, 0, wholes(1)))
        self.assertEqual(desk.take_deed(("late", 6)), wholes(0))
        self.assertEqual(desk.duty, LateAsker(FRACTIONS, 1, 1, 6))

    def test_goal(self):
        self.no_run(("goal", 1, wholes(0)), ("goal", 9, None))
        desk = desk_with(*BEGUN)
        for rank in (0, 2, True, "1"):
            self.check(desk, ("goal", rank, None), (BadReacher, ("rank",)))
        self.check(desk, ("goal", 1, None), (BadRow, ("goal",)))
        self.check(desk, ("goal", None, wholes(1)), (BadReacher, ("goal",)))
        self.assertEqual(desk.take_deed(("goal", 1, [ZERO])), ("ask", wholes(0)))
        self.assertEqual(desk.duty, Reacher(FRACTIONS, 1, 1, 1, wholes(0), wholes(1)))
        self.assertEqual(desk.take_deed(("goal", 1, wholes(1))), ("there", wholes(0)))

    def test_rest(self):
        self.no_run(("rest", 1, False), ("rest", 9, None))
        desk = desk_with(*BEGUN, ("put", wholes(0)))
        for rank in (0, 2, None, True, "1"):
            self.check(desk, ("rest", rank, None), (BadChanger, ("rank",)))
        for pushed in (None, 0, 1, "pushed"):
            self.check(desk, ("rest", 1, pushed), (BadChanger, ("pushed",)))
        self.assertEqual(desk.take_deed(("rest", 1, True)), ("ask", wholes(0)))
        self.assertEqual(desk.duty, Changer(FRACTIONS, 1, 1, 1, wholes(2), True))

    def test_keep(self):
        desk = desk_with(*OF_DOUBLE, *BEGUN)
        self.check(desk, ("keep", None, None, None, None), (BadDeed, ("box",)))
        self.check(desk, ("keep", None, None, FREE, UNIT), (BadDeed, ("box",)))
        for bounds in (None, UNIT):
            self.check(desk, ("keep", None, None, UNIT, bounds), (BadDeed, ("bounds",)))
        wide, many = Box(wholes(0, 0), wholes(1, 1)), Bounds([None, None], [None, None])
        for pushes in (None, (), wholes(-1), wholes(0, 0)):
            self.check(desk, ("keep", pushes, None, wide, many), (BadFit, ("pushes",)))
        for wrong in (-1, 3, None, True):
            self.check(desk, ("keep", wholes(0), wrong, wide, many), (BadFit, ("wrong",)))
        self.check(desk_with(*OF_DOUBLE * 4), ("keep", wholes(0), 0, wide, many), (BadFit, ("many",)))
        self.check(desk_with(*OF_DOUBLE * 3), ("keep", wholes(0), 1, UNIT, FREE), (BadFit, ("many",)))
        self.check(desk, ("keep", wholes(0), 0, wide, many), (BadBox, ("size",)))
        self.check(desk, ("keep", wholes(0), 0, UNIT, many), (BadBounds, ("size",)))
        self.check(desk_with(OF_DOUBLE[0], ("row", wholes(1), wholes(0), wholes(3))), ("keep", wholes(0), 0, UNIT, FREE), (NoFit, ()))
        self.check(Desk(Field(7), 1, 1), ("keep", None, None, UNIT, FREE), (MixedFields, ()))
        told = desk.take_deed(("keep", [(1, 10)], 0, UNIT, FREE))
        self.assertIsInstance(told, Keeper)
        self.assertEqual(desk.duty, told)
        # A Lost leaves the duty as it was.
        self.assertIsInstance(desk.take_deed(("keep", wholes(2), 0, UNIT, FREE)), Lost)
        self.assertEqual(desk.duty, told)
        self.assertEqual(desk.deeds[-1], ("keep", wholes(2), 0, UNIT, FREE))
        # Without a run nobody goes on duty.
        for desk in (desk_with(*OF_DOUBLE), desk_with(*OF_DOUBLE, BEGUN[0])):
            self.assertIsInstance(desk.take_deed(KEEP), Keeper)
            self.assertIs(desk.duty, None)

    def test_tick(self):
        self.no_run(("tick",))
        desk = desk_with(*BEGUN)
        self.check(desk, ("tick",), (NoDuty, ()))
        desk.take_deed(("goal", 1, wholes(0)))
        self.assertEqual([desk.take_deed(("tick",)) for _ in range(3)],
                         [(wholes(0), wholes(2), None), (wholes(1), wholes(5), None), (wholes(-10), wholes(0), None)])
        self.assertEqual(desk.duty.choice[0], "there")
        self.check(desk, ("tick",), (Idle, ()))
        self.assertIsInstance(desk.duty, Reacher)
        # Nothing leads this plant to 0.
        desk = desk_with(("plant", STILL), ("begin", wholes(1)), ("goal", None, wholes(0)), ("go on", 20))
        self.assertEqual(desk.duty.choice[0], "never")
        self.check(desk, ("tick",), (Idle, ()))
        # A Changer goes on at rest.
        desk = desk_with(*BEGUN, ("rest", 1, False), ("go on", 5))
        self.assertEqual(desk.take_deed(("tick",)), (wholes(0), wholes(0), None))
        desk = desk_with(*BEGUN, ("late", 0), ("go on", 20))
        self.assertEqual((len(desk.puts), desk.duty.choice), (2, None))
        self.check(desk, ("tick",), (Idle, ()))

    def test_tick_sixty(self):
        desk = desk_with(*BEGUN, ("put", wholes(-2)), *[("put", wholes(0))] * 59)
        self.assertEqual(len(desk.puts), 60)
        self.check(desk, ("tick",), (NoDuty, ()))
        for deed in (("rest", 1, False), ("goal", 1, wholes(0)), ("late", 0)):
            desk.take_deed(deed)
            self.check(desk, ("tick",), (LongRun, ()))
            self.check(desk, ("go on", 3), (LongRun, ()))

    def test_a_quarrel(self):
        # The plant is exchanged ahead of the way: 3 * 5 - 10 is not 0.
        desk = desk_with(*BEGUN, ("goal", 1, wholes(0)), ("go on", 2), ("exchange", TRIPLE))
        put, state, weights = desk.take_deed(("tick",))
        self.assertEqual((put, state), (wholes(-10), wholes(5)))
        # (1; 0; 2) and (2; 1; 5): 5 and -10 are 25 and -10 times these.
        self.assertEqual(weights, wholes(-25, 10, 1))
        self.assertIs(desk.duty, None)
        self.check(desk, ("tick",), (NoDuty, ()))
        self.assertEqual(desk.deeds[-1], ("tick",))
        # Through "go on" it counts as a tick, and the next one would be refused.
        desk = desk_with(*BEGUN, ("goal", 1, wholes(0)), ("go on", 2), ("exchange", TRIPLE))
        self.assertEqual(desk.take_deed(("go on", 9)), 1)
        self.assertEqual((desk.duty, len(desk.puts)), (None, 3))

    def test_a_quarrel_of_late_replies(self):
        # The start 0 and the input 0, twice, with a push between them.
        desk = desk_with(("plant", DOUBLE), ("begin", wholes(0)), ("late", 1), ("push", wholes(3)))
        self.assertEqual(desk.take_deed(("tick",)), (wholes(0), wholes(3), None))
        put, state, weights = desk.take_deed(("tick",))
        self.assertEqual(weights, wholes(1))
        self.assertIs(desk.duty, None)

    def test_go_on(self):
        desk = Desk(FRACTIONS, 1, 1)
        for ticks in (0, 21, -1, None, True, False, "1", ONE):
            self.check(desk, ("go on", ticks), (BadDeed, ("ticks",)))
        self.check(desk, ("go on", 1), (NoRun, ()))
        desk = desk_with(*BEGUN)
        self.check(desk, ("go on", 20), (NoDuty, ()))
        desk = desk_with(*BEGUN, ("goal", 1, wholes(0)))
        self.assertEqual(desk.take_deed(("go on", 2)), 2)
        self.assertEqual((len(desk.puts), desk.deeds[-1]), (2, ("go on", 2)))
        self.assertEqual(desk.take_deed(("go on", 5)), 1)
        self.assertEqual(desk.deeds[-1], ("go on", 5))
        self.check(desk, ("go on", 5), (Idle, ()))
        self.assertEqual(desk.take_deed(("back",)), ("go on", 5))
        self.assertEqual(len(desk.puts), 2)
        desk = desk_with(*BEGUN, ("rest", 1, False), ("go on", 20), ("go on", 20), ("go on", 19))
        self.assertEqual(desk.take_deed(("go on", 20)), 1)
        self.assertEqual(len(desk.puts), 60)

    def test_a_keeper_on_duty(self):
        desk = desk_with(*OF_DOUBLE, *BEGUN, KEEP)
        keeper = desk.duty
        put, state, weights = desk.take_deed(("tick",))
        self.assertEqual((put, weights), (keeper.choose(wholes(1)), None))
        self.assertEqual((desk.duty, desk.states[-1]), (keeper, state))
        self.assertEqual(desk.take_deed(("go on", 20)), 20)
        self.assertTrue(all(UNIT.holds(x) for x in desk.states))
        # Outside its box it puts nothing.
        desk.take_deed(("push", wholes(9)))
        desk.take_deed(("tick",))
        self.check(desk, ("tick",), (Outside, (0,)))
        self.check(desk, ("go on", 2), (Outside, (0,)))
        self.assertEqual(desk.duty, keeper)
        desk = desk_with(*OF_DOUBLE, *BEGUN, KEEP, ("go on", 3), ("push", wholes(9)))
        self.assertEqual(desk.take_deed(("go on", 9)), 1)

    def test_late_replies_are_counted_from_the_duty_on(self):
        for before in (0, 1, 5):
            for late in range(7):
                desk = desk_with(*BEGUN, *[("put", wholes(3))] * before, ("late", late))
                start = desk.states[-1]
                asker = LateAsker(FRACTIONS, 1, 1, late, start if late == 0 else None)
                ticks = 0
                while asker.choice is not None:
                    put, state, weights = desk.take_deed(("tick",))
                    self.assertEqual((put, weights), (asker.choice, None))
                    ticks += 1
                    asker = asker.hear(desk.states[before + ticks - late] if ticks >= late else None)
                    self.assertEqual(desk.duty, asker)
                self.assertEqual(asker.states, desk.states[before:before + ticks + 1 - late])
                self.assertEqual(asker.asker.known()[1], (wholes(2), wholes(1)))
                self.check(desk, ("tick",), (Idle, ()))

    def test_row(self):
        desk = Desk(FRACTIONS, 1, 1)
        for things, due in (((None, None, None), "x"), ((wholes(1), None, None), "u"), ((wholes(1), wholes(1), None), "y"),
                            ((wholes(1, 2), wholes(1), wholes(1)), "x")):
            self.check(desk, ("row",) + things, (BadRow, (due,)))
        ranks = [desk.take_deed(("row", [(k, 1)], wholes(j), wholes(9))) for k, j in ((0, 0), (1, 1), (2, 2), (1, 2), (7, 8))]
        self.assertEqual(ranks, [0, 1, 1, 2, 2])
        self.assertEqual(desk.record.rows[1], (wholes(1), wholes(1), wholes(9)))
        for _ in range(25):
            desk.take_deed(OF_DOUBLE[0])
        self.check(desk, OF_DOUBLE[0], (BadRecord, ("many",)))
        self.check(desk, ("row", None, None, None), (BadRecord, ("many",)))

    def test_cut(self):
        self.no_run(("cut", 0, 0), ("cut", None, None))
        desk = desk_with(*OF_DOUBLE, *BEGUN, ("put", wholes(1)), ("push", wholes(4)), ("put", wholes(0)), ("late", 0))
        for low, high in ((-1, 0), (1, 0), (0, 3), (3, 3), (None, 1), (0, None), (True, 1), (0, True), ("0", 1), (0, ONE), (0, -1)):
            self.check(desk, ("cut", low, high), (BadDeed, ("cut",)))
        self.assertEqual(desk.take_deed(("cut", 0, 2)), 2)
        self.assertEqual(desk.record.rows, ((wholes(1), wholes(1), wholes(3)), (wholes(3), wholes(0), wholes(10))))
        self.assertIsInstance(desk.duty, LateAsker)
        self.assertEqual(desk.take_deed(("cut", 1, 1)), 0)
        self.assertEqual(desk.record, Record(FRACTIONS, 1, 1))
        desk = desk_with(*BEGUN, *[("put", wholes(0))] * 40)
        for low, high in ((0, 30), (10, 40), (5, 35)):
            self.assertEqual(desk.take_deed(("cut", low, high)), 1)
            self.assertEqual(len(desk.record), 30)
        for low, high in ((0, 31), (9, 40), (0, 40)):
            self.check(desk, ("cut", low, high), (BadDeed, ("cut",)))

    def test_back(self):
        desk = Desk(FRACTIONS, 1, 1)
        self.check(desk, ("back",), (NoDeed, ()))
        deeds = (*OF_DOUBLE, *BEGUN, ("put", wholes(1)), ("push", wholes(4)), ("exchange", TRIPLE), ("late", 2), ("tick",),
                 ("goal", 1, wholes(0)), ("go on", 2), ("rest", 1, True), ("ahead",), KEEP, ("cut", 0, 3), ("plant", STILL))
        stands = []
        for deed in deeds:
            stands.append(stand_of(desk))
            desk.take_deed(deed)
        for deed, stand in zip(deeds[::-1], stands[::-1]):
            last = stand_of(desk)
            self.assertEqual(desk.take_deed(("back",)), deed)
            self.assertEqual(stand_of(desk), stand)
            # What is taken back can be made once more.
            desk.take_deed(deed)
            self.assertEqual(stand_of(desk), last)
            desk.take_deed(["back"])
        for _ in range(3):
            self.check(desk, ("back",), (NoDeed, ()))
        self.assertEqual(desk, Desk(FRACTIONS, 1, 1))


class Trying(unittest.TestCase):
    def desk(self):
        return desk_with(*OF_DOUBLE, *BEGUN, ("rest", 1, False), ("tick",), ("push", wholes(1)))

    def test_what_it_returns(self):
        desk = self.desk()
        before = stand_of(desk)
        thing = [1, 2]
        self.assertIs(desk.tried(lambda given: thing), thing)
        self.assertIs(desk.tried(call=lambda given: given), desk)
        self.assertIs(desk.tried(lambda given: None), None)

        def deeds(given):
            given.take_deed(("go on", 3))
            given.take_deed(("plant", TRIPLE))
            given.take_deed(("row", wholes(1), wholes(1), wholes(1)))
            return stand_of(given)

        told = desk.tried(deeds)
        self.assertEqual(told[3], TRIPLE)
        self.assertEqual(stand_of(desk), before)
        self.assertEqual(desk, self.desk())
        # It goes on from where it was.
        desk.take_deed(("tick",))
        self.assertEqual(len(desk.puts), 2)
        self.assertEqual(desk.take_deed(("back",)), ("tick",))
        self.assertEqual(desk.take_deed(("back",)), ("push", wholes(1)))

    def test_what_it_raises(self):
        desk = self.desk()
        before = stand_of(desk)

        def refused(given):
            given.take_deed(("plant", DOUBLE))
            given.take_deed(("tick",))

        self.assertEqual(raised(desk.tried, refused), (NoRun, ()))
        self.assertEqual(stand_of(desk), before)

        def fails(given):
            given.take_deed(("back",))
            given.take_deed(("back",))
            return [][given.size]

        with self.assertRaises(IndexError):
            desk.tried(fails)
        self.assertEqual(stand_of(desk), before)
        self.assertEqual(desk.take_deed(("back",)), ("push", wholes(1)))

    def test_all_back_within(self):
        desk = self.desk()
        before = stand_of(desk)

        def all_back(given):
            many = 0
            while given.deeds:
                given.take_deed(("back",))
                many += 1
            return many

        self.assertEqual(desk.tried(all_back), 7)
        self.assertEqual(stand_of(desk), before)
        self.assertEqual(all_back(desk), 7)

    def test_trials_within_trials(self):
        desk = self.desk()
        before = stand_of(desk)

        def outer(given):
            given.take_deed(("put", wholes(1)))
            middle = stand_of(given)

            def inner(again):
                self.assertIs(again, given)
                again.take_deed(("plant", TRIPLE))
                raise KeyError("inner")

            with self.assertRaises(KeyError):
                given.tried(inner)
            self.assertEqual(stand_of(given), middle)
            return given.tried(lambda again: again.take_deed(("put", wholes(2))))

        self.assertEqual(desk.tried(outer), wholes(14))
        self.assertEqual(stand_of(desk), before)

    def test_an_empty_desk(self):
        desk = Desk(Field(7), 2, 3)
        desk.tried(lambda given: given.take_deed(("row", zero_row(2), zero_row(3), zero_row(2))))
        self.assertEqual(stand_of(desk), stand_of(Desk(Field(7), 2, 3)))


class Stories(unittest.TestCase):
    def test_lists(self):
        story = Story(FRACTIONS, 1, 1, [["plant", DOUBLE], ["begin", [ONE]], ("tick",)])
        self.assertEqual(raised(retell_story, story), (NoDuty, ()))
        story = Story(FRACTIONS, 1, 1, [["plant", DOUBLE], ["begin", [ONE]], ("put", [ONE])])
        desk = retell_story(story=story)
        self.assertEqual(desk, desk_with(*BEGUN, ("put", wholes(1))))
        self.assertEqual(desk.tell_story(), Story(FRACTIONS, 1, 1, (*BEGUN, ("put", wholes(1)))))

    def test_what_it_raises(self):
        for size, inputs, due in ((0, None, "size"), (1, 4, "inputs")):
            self.assertEqual(raised(retell_story, Story(FRACTIONS, size, inputs, (None,))), (BadDesk, (due,)))
        for deeds, due in (((("begin", wholes(1)),), (NoPlant, ())), ((*BEGUN, ("tick",), ("back",)), (NoDuty, ())),
                           ((*BEGUN, ("back",)), (BadDeed, ("deed",))), ((*BEGUN, ["back"], ("tick",)), (BadDeed, ("deed",))),
                           ((("back",),), (BadDeed, ("deed",))), ((("back", 1),), (BadDeed, ("deed",))),
                           ((None,), (BadDeed, ("deed",))), (((),), (BadDeed, ("deed",))), ((("stay",),), (BadDeed, ("deed",))),
                           ((*BEGUN, ("put", None)), (BadRow, ("u",)))):
            self.assertEqual(raised(retell_story, Story(FRACTIONS, 1, 1, deeds)), due)
        self.assertEqual(retell_story(Story(FRACTIONS, 1, 1, ())), Desk(FRACTIONS, 1, 1))

    def test_a_story_does_not_change(self):
        desk = desk_with(*BEGUN)
        story = desk.tell_story()
        desk.take_deed(("put", wholes(1)))
        self.assertEqual(story, Story(FRACTIONS, 1, 1, BEGUN))


class Times(Timed):
    def test_the_greatest_desk(self):
        for seed, (field, number) in enumerate(KINDS):
            # In long runs numbers of 30 figures would grow too long.
            if number is long_whole:
                continue
            drawer = Drawer(field.prime, 4, 3, seed)

            def row(width):
                return tuple(number(drawer.source) for _ in range(width))

            plants = [Plant(field, [row(4) for _ in range(4)], [row(3) for _ in range(4)]) for _ in range(3)]
            desk = Desk(field, 4, 3)
            self.timed(desk.take_deed, ("plant", plants[0]))
            for rest in (False, True):
                self.timed(desk.take_deed, ("begin", row(4)))
                # An exchange or a push behind a long way would let numbers of thousands of figures arise.
                for deed in (("ahead",), ("late", 0), ("go on", 20), ("goal", 1, row(4)), ("tick",), ("rest", 1, rest),
                             ("exchange", plants[1]), ("go on", 14), ("exchange", plants[2]), ("push", row(4)), ("go on", 20),
                             ("cut", 0, 7)):
                    self.timed(told_by, desk, deed, desk.take_deed)
            self.timed(desk.tried, lambda given: given.take_deed(("plant", plants[1])))
            self.assertEqual(self.timed(retell_story, self.timed(desk.tell_story)), desk)
            while desk.deeds:
                self.timed(desk.take_deed, ("back",))

    def test_long_rows_of_deeds(self):
        desk = desk_with(*BEGUN)
        for turn in range(1500):
            self.timed(desk.take_deed, (("push", wholes(turn)), ("exchange", TRIPLE), ("rest", 1, True), ("begin", wholes(1)))[turn % 4])
        self.assertEqual(self.timed(retell_story, desk.tell_story()), desk)
        for _ in range(1502):
            self.timed(desk.take_deed, ("back",))
        self.assertEqual(desk.deeds, ())


if __name__ == "__main__":
    unittest.main()
