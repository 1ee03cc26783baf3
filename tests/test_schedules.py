import unittest
from random import Random

from classes import drawn_row
from exchanges import drawn_pushes, own_scheduled
from measured import SHAPES
from sums import FIELDS, FRACTIONS, NO_ROWS, all_tuples, lists, plant_of, raised, value_table, wholes
from timing import KINDS, Timed
from untaughthelm.errors import BadRow, BadSchedule
from untaughthelm.fields import Field
from untaughthelm.plants import Plant
from untaughthelm.schedules import run_schedule

ZERO = (0, 1)
ONE = (1, 1)
# The first doubles the state, the second one forgets it.
DOUBLE = plant_of(FRACTIONS, [[2]], [[1]])
FORGET = plant_of(FRACTIONS, [[0]], [[1]])
NO_TICKS = (-1, None, True, False, "0", ZERO, 1.0)


def plants(field, size, inputs):
    return [plant_of(field, value_table(seed, size, size, field), value_table(seed + 9, size, inputs, field))
            for seed in range(4)]


class Running(unittest.TestCase):
    def test_against_own_sums(self):
        for field in FIELDS:
            for size, inputs in SHAPES:
                source = Random(size)
                told = plants(field, size, inputs)
                start = drawn_row(field, source, size)
                for ticks in (0, 1, 2, 9):
                    puts = [drawn_row(field, source, inputs) for _ in range(ticks)]
                    for schedule in (((0, told[0]),), ((0, told[0]), (1, told[1])), ((0, told[0]), (ticks + 5, told[2])),
                                     ((0, told[3]), (1, told[2]), (2, told[1]), (8, told[0]), (9, told[1]))):
                        for pushes in ((), drawn_pushes(source, field, size, 3, 9), drawn_pushes(source, field, size, 6, 1)):
                            states = run_schedule(schedule, start, puts, pushes)
                            self.assertEqual(states, own_scheduled(schedule, start, puts, pushes))
                            self.assertTrue(all_tuples(states))
                            self.assertEqual(len(states), ticks + 1)

    def test_one_plant(self):
        told = plants(FRACTIONS, 3, 2)[0]
        puts = [wholes(1, -1), wholes(0, 4)]
        self.assertEqual(run_schedule([(0, told)], wholes(1, 2, 3), puts), told.run(wholes(1, 2, 3), puts))
        self.assertEqual(run_schedule([(0, told)], wholes(1, 2, 3), ()), (wholes(1, 2, 3),))

    def test_exchanges(self):
        puts = [[ZERO]] * 4
        for tick, due in ((1, (1, 2, 0, 0, 0)), (2, (1, 2, 4, 0, 0)), (3, (1, 2, 4, 8, 0)), (4, (1, 2, 4, 8, 16)),
                          (10 ** 9, (1, 2, 4, 8, 16))):
            states = run_schedule(((0, DOUBLE), (tick, FORGET)), [ONE], puts)
            self.assertEqual(states, tuple(wholes(part) for part in due))
        states = run_schedule(((0, DOUBLE), (1, FORGET), (2, DOUBLE), (3, FORGET)), [ONE], [[ONE]] * 4)
        self.assertEqual(states, tuple(wholes(part) for part in (1, 3, 1, 3, 1)))

    def test_pushes(self):
        puts = [[ZERO]] * 3
        for pushes, due in (((), (1, 2, 4, 8)), ([(0, [ONE])], (1, 3, 6, 12)), ([(2, [(-8, 1)])], (1, 2, 4, 0)),
                            ([(1, [ONE]), (1, [(5, 1)]), (1, [(-2, 1)])], (1, 2, 8, 16)), ([(3, [ONE])], (1, 2, 4, 8)),
                            ([(99, [ONE]), (0, [(-2, 1)])], (1, 0, 0, 0)), ([(2, [ONE]), (0, [ONE])], (1, 3, 6, 13))):
            for given in (pushes, tuple(pushes)):
                self.assertEqual(run_schedule([(0, DOUBLE)], [ONE], puts, given), tuple(wholes(part) for part in due))

    def test_lists_and_tuples(self):
        schedule, start, puts, pushes = [[0, DOUBLE], [2, FORGET]], [ONE], [[ZERO], [ONE], [ONE]], [[1, [ONE]]]
        given = [list(couple) for couple in schedule], lists(start), lists(puts), [[1, [ONE]]]
        states = run_schedule(*given)
        self.assertEqual(states, tuple(wholes(part) for part in (1, 2, 6, 1)))
        self.assertEqual(given, (schedule, start, puts, pushes))
        self.assertEqual(run_schedule(schedule=((0, DOUBLE),), start=(ONE,), puts=((ZERO,),), pushes=()),
                         (wholes(1), wholes(2)))


class Errors(unittest.TestCase):
    def check(self, what, at, schedule, start=None, puts=None, pushes=None):
        self.assertEqual(raised(run_schedule, schedule, start, puts, pushes), (BadSchedule, (at, what)))

    def test_empty(self):
        for schedule in ((), []):
            self.check("tick", 0, schedule)

    def test_ticks(self):
        for bad in (None, 3, "ab", (), (0,), (0, DOUBLE, None), DOUBLE, {0: DOUBLE, 1: 2}):
            self.check("tick", 0, [bad])
            self.check("tick", 0, [bad, None])
            self.check("tick", 1, [(0, DOUBLE), bad, (0, None)])
            self.check("tick", 2, ((0, DOUBLE), (3, FORGET), bad))
        for tick in NO_TICKS + (1, 5):
            self.check("tick", 0, [(tick, DOUBLE)])
            self.check("tick", 0, [(tick, None), (0, DOUBLE)])
        for tick in NO_TICKS + (0, 3, 2):
            self.check("tick", 2, [(0, DOUBLE), (3, FORGET), (tick, DOUBLE)])
            self.check("tick", 2, [(0, DOUBLE), (3, FORGET), (tick, None), None])
        self.check("tick", 1, [(0, DOUBLE), (0, FORGET)])

    def test_plants(self):
        for bad in (None, 3, "plant", (DOUBLE,), Plant):
            self.check("plant", 0, [(0, bad), None])
        for bad in (None, 3, plant_of(Field(7), [[2]], [[1]]), plant_of(FRACTIONS, [[2]], [[1, 1]]),
                    plant_of(FRACTIONS, [[2, 0], [0, 2]], [[1], [1]])):
            self.check("plant", 1, [(0, DOUBLE), (1, bad), (1, None)])
            self.check("plant", 2, [(0, DOUBLE), (1, FORGET), (2, bad)])
        # Another size than the first one's, though like the one before it.
        wide = plant_of(FRACTIONS, [[2]], [[1, 1]])
        self.check("plant", 1, [(0, DOUBLE), (1, wide), (2, wide)])

    def test_rows(self):
        two = plants(FRACTIONS, 2, 2)
        schedule = [(0, two[0]), (3, two[1])]
        for row in NO_ROWS:
            self.assertEqual(raised(run_schedule, schedule, row, None, None), (BadRow, ("start",)))
            for puts in ([row], [wholes(0, 0), row], (row, wholes(0, 0))):
                self.assertEqual(raised(run_schedule, schedule, wholes(0, 0), puts, None), (BadRow, ("u",)))
        for start in (wholes(1), wholes(1, 2, 3)):
            self.assertEqual(raised(run_schedule, schedule, start, []), (BadRow, ("start",)))

    def test_pushes(self):
        good = (0, [ONE])
        for bad in (None, 3, "ab", (), (0,), (0, [ONE], 1), *[(tick, [ONE]) for tick in NO_TICKS], (0, None), (0, ()),
                    (0, wholes(1, 2)), (0, [1]), (0, [(2, 4)]), {0: 1, 1: 2}):
            for puts in ((), [[ZERO]]):
                self.check("push", 0, [(0, DOUBLE)], [ONE], puts, [bad])
                self.check("push", 2, [(0, DOUBLE)], [ONE], puts, (good, good, bad, None))
        for pushes in (None, 3, {0: [ONE]}):
            self.check("push", 0, [(0, DOUBLE)], [ONE], (), pushes)
        # Also at ticks at which nothing is put.
        self.check("push", 1, [(0, DOUBLE)], [ONE], (), [(99, [ONE]), (99, [None])])


class Times(Timed):
    def test_sixty_ticks(self):
        for seed, (field, number) in enumerate(KINDS):
            source = Random(seed)

            def row(width):
                return tuple(number(source) for _ in range(width))

            told = [Plant(field, [row(4) for _ in range(4)], [row(3) for _ in range(4)]) for _ in range(60)]
            states = self.timed(run_schedule, list(enumerate(told)), row(4), [row(3) for _ in range(60)],
                                [(tick, row(4)) for tick in range(60)])
            self.assertEqual(len(states), 61)


if __name__ == "__main__":
    unittest.main()
