import unittest
from functools import lru_cache
from random import Random

from classes import drawn_row, rank_of_b
from exchanges import own_scheduled
from kinds import check_all_unlike, check_equal
from measured import SHAPES
from sums import FRACTIONS, NO_ROWS, all_tuples, is_controllable, lists, raised, wholes
from timing import KINDS, Timed
from untaughthelm.changefoes import ChangeFoe
from untaughthelm.changing import Changer, rest_ticks
from untaughthelm.errors import BadFoe, BadRow, TooSmall
from untaughthelm.fields import Field
from untaughthelm.plants import Plant
from untaughthelm.reachfoes import ReachFoe
from untaughthelm.rows import unit_row, zero_row
from untaughthelm.schedules import run_schedule

ZERO = (0, 1)
ONE = (1, 1)
CLASSES = tuple((size, inputs, rank) for size, inputs in SHAPES for rank in range(1, min(size, inputs) + 1))
FOE_FIELDS = (FRACTIONS, Field(3), Field(5), Field(97))


def first_foe(field, size, inputs, rank, exchanges, seed=0):
    start = unit_row(size, size - 1) if seed % 2 else (ONE,) * size
    return ChangeFoe(field, size, inputs, rank, start, exchanges)


def all_classes():
    for field in FOE_FIELDS:
        for size, inputs, rank in CLASSES:
            if field.prime is None or field.prime > size:
                yield field, size, inputs, rank


def zeros(foe):
    return zero_row(foe.inputs)


def drawn(foe):
    return drawn_row(foe.field, Random(foe.tick), foe.inputs)


def units(foe):
    return unit_row(foe.inputs, foe.tick % foe.inputs)


def play(foe, rule, ticks):
    """The foes of each tick against inputs that are chosen by a rule."""
    told = [foe]
    for _ in range(ticks):
        told.append(told[-1].put(rule(told[-1])))
    return told


def play_changer(foe, pushed, ticks):
    changer = Changer(foe.field, foe.size, foe.inputs, foe.rank, foe.start, pushed)
    told = [foe]
    for _ in range(ticks):
        told.append(told[-1].put(changer.choice[1]))
        changer = changer.hear(told[-1].state)
    return told


@lru_cache(None)
def plays():
    """Rows of foes against zeros, units, drawn inputs and Changers, up to behind their last exchange."""
    told = []
    for seed, (field, size, inputs, rank) in enumerate(all_classes()):
        exchanges = seed % 4
        foe = first_foe(field, size, inputs, rank, exchanges, seed)
        ticks = rest_ticks(size, inputs, rank, exchanges) + 2
        told.append(play(foe, (zeros, units, drawn)[seed % 3], ticks))
        told.append(play_changer(foe, seed % 2 == 0, ticks))
    return tuple(told)


def own_foes(foe):
    """Couples of a begin and the ReachFoe of it, made in the test from the inputs that were put."""
    zero = zero_row(foe.size)
    length = 2 * foe.size + foe.inputs - foe.rank
    reach = ReachFoe(foe.field, foe.size, foe.inputs, foe.rank, foe.start, zero)
    told, shown = [(0, reach)], [foe.start]
    for tick, u in enumerate(foe.puts, start=1):
        told[-1] = (told[-1][0], told[-1][1].put(u))
        shown.append(told[-1][1].state)
        if tick % length == 0 and tick // length <= foe.exchanges:
            told.append((tick, ReachFoe(foe.field, foe.size, foe.inputs, foe.rank, shown[-1], zero)))
    return told, tuple(shown)


class Making(unittest.TestCase):
    def test_errors(self):
        for field in (FRACTIONS, Field(2)):
            for size in (0, 5, -1, None, True, "1", (1, 1), [1]):
                self.assertEqual(raised(ChangeFoe, field, size, 9, 9, None, None), (BadFoe, ("size",)))
            for inputs in (0, 4, None, True, "1", ONE):
                self.assertEqual(raised(ChangeFoe, field, 2, inputs, 9, None, None), (BadFoe, ("inputs",)))
            for rank in (0, 3, None, True, "1", ONE):
                self.assertEqual(raised(ChangeFoe, field, 2, 2, rank, None, None), (BadFoe, ("rank",)))
        for prime in (2, 3):
            self.assertEqual(raised(ChangeFoe, Field(prime), 3, 1, 1, None, None), (TooSmall, (prime,)))
        for field in (FRACTIONS, Field(5)):
            for start in (None, 3, (), wholes(1), wholes(1, 2, 3), ((1, 1), [0, 1])):
                self.assertEqual(raised(ChangeFoe, field, 2, 1, 1, start, None), (BadRow, ("start",)))
            self.assertEqual(raised(ChangeFoe, field, 2, 1, 1, wholes(0, 0), None), (BadFoe, ("start",)))
            for exchanges in (-1, 4, None, True, False, "1", ONE):
                self.assertEqual(raised(ChangeFoe, field, 2, 1, 1, wholes(1, 0), exchanges), (BadFoe, ("exchanges",)))
        for exchanges in (0, 1, 2, 3):
            self.assertEqual(ChangeFoe(FRACTIONS, 2, 1, 1, [ONE, ZERO], exchanges).exchanges, exchanges)

    def test_wrong_inputs(self):
        foe = ChangeFoe(FRACTIONS, 2, 2, 1, wholes(1, 0), 1)
        for told in (foe, play(foe, zeros, 4)[-1], play(foe, zeros, 9)[-1]):
            for row in NO_ROWS:
                self.assertEqual(raised(told.put, row), (BadRow, ("u",)))

    def test_at_first(self):
        foe = ChangeFoe(field=FRACTIONS, size=2, inputs=1, rank=1, start=[ONE, ZERO], exchanges=2)
        self.assertEqual((foe.field, foe.size, foe.inputs, foe.rank, foe.start, foe.exchanges),
                         (FRACTIONS, 2, 1, 1, wholes(1, 0), 2))
        self.assertEqual((foe.tick, foe.state, foe.puts, foe.shown), (0, wholes(1, 0), (), (wholes(1, 0),)))
        self.assertEqual([tick for tick, _ in foe.tell_schedule()], [0])

    def test_what_is_passed_in_is_not_kept(self):
        start, u = lists(wholes(1, 0)), lists(wholes(3))
        foe = ChangeFoe(FRACTIONS, 2, 1, 1, start, 0)
        heard = foe.put(u=u)
        self.assertEqual((start, u), (lists(wholes(1, 0)), lists(wholes(3))))
        start[0] = u[0] = (9, 1)
        self.assertEqual((foe.start, foe.puts, heard.puts, heard.shown[0]), (wholes(1, 0), (), (wholes(3),), wholes(1, 0)))

    def test_equality(self):
        first = ChangeFoe(FRACTIONS, 1, 1, 1, wholes(1), 1)
        things = [first, first.put(wholes(0)), first.put(wholes(1)), first.put(wholes(0)).put(wholes(0)),
                  ChangeFoe(FRACTIONS, 1, 1, 1, wholes(2), 1), ChangeFoe(FRACTIONS, 1, 1, 1, wholes(1), 2),
                  ChangeFoe(FRACTIONS, 1, 2, 1, wholes(1), 1), ChangeFoe(Field(5), 1, 1, 1, wholes(1), 1),
                  ChangeFoe(FRACTIONS, 2, 1, 1, wholes(1, 0), 1), ChangeFoe(FRACTIONS, 2, 2, 1, wholes(1, 0), 1),
                  ChangeFoe(FRACTIONS, 2, 2, 2, wholes(1, 0), 1), ReachFoe(FRACTIONS, 1, 1, 1, wholes(1), wholes(0))]
        check_all_unlike(self, things)
        check_equal(self, ChangeFoe(FRACTIONS, 1, 1, 1, [ONE], 1).put([ZERO]), things[1])

    def test_two_ways_from_one_state(self):
        foe = play(ChangeFoe(FRACTIONS, 1, 1, 1, wholes(1), 1), zeros, 2)[-1]
        schedule = foe.tell_schedule()
        one, other = foe.put(wholes(1)), foe.put(wholes(-5))
        self.assertEqual((foe.tick, foe.puts, foe.tell_schedule()), (2, (wholes(0),) * 2, schedule))
        self.assertEqual((one.puts[-1], other.puts[-1]), (wholes(1), wholes(-5)))


class Replying(unittest.TestCase):
    def test_against_reach_foes(self):
        for row in plays():
            foes, shown = own_foes(row[-1])
            for foe in row:
                self.assertEqual((foe.shown, foe.state), (shown[:foe.tick + 1], shown[foe.tick]))
                self.assertEqual((foe.puts, foe.tick), (row[-1].puts[:foe.tick], len(foe.shown) - 1))
                self.assertTrue(all_tuples((foe.shown, foe.puts)))
            for foe in row[::5] + row[-1:]:
                due = tuple((tick, reach.plant()) for tick, reach in own_foes(foe)[0])
                self.assertEqual(foe.tell_schedule(), due)
            self.assertEqual(len(foes), row[-1].exchanges + 1)

    def test_never_at_rest_too_soon(self):
        for row in plays():
            foe = row[-1]
            due = rest_ticks(foe.size, foe.inputs, foe.rank, foe.exchanges)
            self.assertNotIn(zero_row(foe.size), foe.shown[:due])

    def test_the_changer_is_at_rest_at_that_tick(self):
        for row in plays()[1::2]:
            foe = row[-1]
            due = rest_ticks(foe.size, foe.inputs, foe.rank, foe.exchanges)
            plain = play_changer(row[0], False, due + 2)[-1]
            self.assertNotIn(zero_row(foe.size), plain.shown[:due])
            self.assertEqual(plain.shown[due:], (zero_row(foe.size),) * 3)

    def test_changers_of_other_classes(self):
        for field, size, inputs, rank in list(all_classes())[::3]:
            foe = first_foe(field, size, inputs, rank, 1)
            due = rest_ticks(size, inputs, rank, 1)
            for other in range(1, min(size, inputs) + 1):
                changer = Changer(field, size, inputs, other, foe.start)
                told = foe
                while told.tick < due - 1:
                    told = told.put(changer.choice[1])
                    changer = changer.hear(told.state)
                    self.assertNotEqual(told.state, zero_row(size))

    def test_the_schedule(self):
        for row in plays():
            for foe in row[::3] + row[-3:]:
                schedule = foe.tell_schedule()
                self.assertIsInstance(schedule, tuple)
                self.assertEqual(run_schedule(schedule, foe.start, foe.puts), foe.shown)
                self.assertEqual(own_scheduled(schedule, foe.start, foe.puts), foe.shown)
                length = 2 * foe.size + foe.inputs - foe.rank
                self.assertEqual([tick for tick, _ in schedule],
                                 [k * length for k in range(foe.exchanges + 1) if k * length <= foe.tick])

    def test_the_plants_of_the_schedule(self):
        for row in plays():
            for foe in row[::7] + row[-1:]:
                for tick, plant in foe.tell_schedule():
                    self.assertIsInstance(plant, Plant)
                    self.assertEqual((plant.field, plant.size, plant.inputs), (foe.field, foe.size, foe.inputs))
                    self.assertTrue(is_controllable(plant))
                    self.assertEqual(rank_of_b(plant), foe.rank)

    def test_at_the_tick_of_an_exchange(self):
        foe = play(ChangeFoe(FRACTIONS, 1, 1, 1, wholes(1), 1), zeros, 2)[-1]
        schedule = foe.tell_schedule()
        self.assertEqual([tick for tick, _ in schedule], [0, 2])
        # The new plant begins at the state 4: its first reply is twice that, whatever is put.
        for put in (0, 1, -8):
            self.assertEqual(foe.put(wholes(put)).state, wholes(8))

    def test_far_behind_the_last_exchange(self):
        for field in (FRACTIONS, Field(5)):
            foe = play(first_foe(field, 3, 2, 1, 3), drawn, 60)[-1]
            self.assertEqual((foe.tick, len(foe.tell_schedule())), (60, 4))
            self.assertEqual(own_scheduled(foe.tell_schedule(), foe.start, foe.puts), foe.shown)


class Times(Timed):
    def test_sixty_ticks(self):
        for seed, (field, number) in enumerate(KINDS):
            if field.prime == 2:
                continue
            source = Random(seed)
            for rank in (1, 3):
                foe = ChangeFoe(field, 4, 3, rank, unit_row(4, 1), 3)
                for _ in range(60):
                    foe = self.timed(foe.put, tuple(number(source) for _ in range(3)))
                schedule = self.timed(foe.tell_schedule)
                self.assertEqual(self.timed(run_schedule, schedule, foe.start, foe.puts), foe.shown)


if __name__ == "__main__":
    unittest.main()
