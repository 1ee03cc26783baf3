"""What 16.6 promises of programs on duty, whatever else is done at the desk."""

import unittest
from fractions import Fraction
from random import Random

from classes import drawn_row, plants_of_classes
from desks import is_of_class, plants_for, told_by
from disturbed import calm_fit, drawn_agreeing
from exchanges import plants_of
from sums import FRACTIONS, opened, packed_row
from untaughthelm.boxes import Bounds, Box, Keeper
from untaughthelm.changing import Changer, rest_ticks, unrest_ticks
from untaughthelm.desk import Desk
from untaughthelm.errors import Idle
from untaughthelm.fields import Field
from untaughthelm.fits import Fit, lot_of
from untaughthelm.reaching import Reacher, reach_ticks
from untaughthelm.rows import zero_row

PRIMES = (None, 2, 3, 7)


def beside(source, desk):
    """A deed that takes nothing from who is on duty."""
    field, size, inputs = desk.field, desk.size, desk.inputs
    tick = len(desk.puts)
    kind = source.randrange(5)
    if kind == 0 and len(desk.record) < 30:
        desk.take_deed(("row", drawn_row(field, source, size), drawn_row(field, source, inputs), drawn_row(field, source, size)))
    elif kind == 1:
        desk.take_deed(("cut", max(0, tick - 4), tick))
    elif kind == 2:
        desk.tried(lambda given: given.take_deed(("plant", given.plant)))
    elif kind == 3:
        desk.take_deed(("push", drawn_row(field, source, size)))
        desk.take_deed(("back",))
    else:
        told_by(desk, ("begin", None), desk.take_deed)


def made_desk(source, prime, plant, before):
    desk = Desk(Field(prime), plant.size, plant.inputs)
    desk.take_deed(("plant", plant))
    desk.take_deed(("begin", drawn_row(desk.field, source, plant.size)))
    for _ in range(before):
        desk.take_deed(("put", drawn_row(desk.field, source, plant.inputs)))
    return desk


class Reachers(unittest.TestCase):
    def test_at_the_goal_in_time(self):
        for prime in PRIMES:
            for place, (rank, plant) in enumerate(plants_of_classes(prime, Field)):
                source = Random(place)
                desk = made_desk(source, prime, plant, place % 3)
                goal = drawn_row(desk.field, source, plant.size) if place % 2 else zero_row(plant.size)
                began = len(desk.puts)
                desk.take_deed(("goal", rank, goal))
                while desk.duty.choice[0] != "there":
                    beside(source, desk)
                    desk.take_deed(("tick",) if source.randrange(2) else ("go on", source.randint(1, 3)))
                    self.assertIsInstance(desk.duty, Reacher)
                self.assertEqual(desk.states[-1], goal)
                self.assertLessEqual(len(desk.puts) - began, reach_ticks(plant.size, plant.inputs, rank))

    def test_after_an_exchange_ahead_of_the_duty(self):
        for prime in PRIMES:
            for place, (rank, plant) in enumerate(plants_of_classes(prime, Field)[::3]):
                source = Random(place)
                desk = made_desk(source, prime, source.choice(plants_for(prime, plant.size, plant.inputs)), 2)
                desk.take_deed(("push", drawn_row(desk.field, source, plant.size)))
                desk.take_deed(("put", zero_row(plant.inputs)))
                desk.take_deed(("exchange", plant))
                desk.take_deed(("goal", rank, zero_row(plant.size)))
                began = len(desk.puts)
                while told_by(desk, ("tick",), desk.take_deed)[0] is not Idle:
                    self.assertTrue(is_of_class(desk.plant, rank))
                self.assertEqual(desk.states[-1], zero_row(plant.size))
                self.assertLessEqual(len(desk.puts) - began, reach_ticks(plant.size, plant.inputs, rank))


class Changers(unittest.TestCase):
    def unrest(self, desk, began):
        return sum(1 for state in desk.states[began:] if state != zero_row(desk.size))

    def test_exchanges(self):
        for prime in PRIMES:
            for place, ((size, inputs, rank), plants) in enumerate(sorted(plants_of(prime).items())):
                source = Random(place)
                desk = made_desk(source, prime, plants[0], place % 3)
                desk.take_deed(("rest", rank, False))
                began, many = len(desk.puts), place % 3
                # Those ahead of its first tick are none behind it.
                desk.take_deed(("exchange", source.choice(plants)))
                due = rest_ticks(size, inputs, rank, many)
                ticks = sorted(source.sample(range(1, min(due, 40)), many))
                while len(desk.puts) < min(60, began + due + 4):
                    if len(desk.puts) - began in ticks:
                        desk.take_deed(("exchange", source.choice(plants)))
                    beside(source, desk)
                    desk.take_deed(("tick",))
                self.assertIsInstance(desk.duty, Changer)
                self.assertTrue(all(state == zero_row(size) for state in desk.states[began + due:]))
                self.assertLessEqual(len(desk.duty.stretches), many)

    def test_pushes(self):
        for prime in (None, 2, 7):
            for place, ((size, inputs, rank), plants) in enumerate(sorted(plants_of(prime).items())):
                source = Random(place)
                desk = made_desk(source, prime, plants[0], 1)
                desk.take_deed(("rest", rank, True))
                began, exchanges, pushes = len(desk.puts), 0, 0
                while len(desk.puts) < 60:
                    at = len(desk.puts) - began
                    # At rest and on the first ticks, lest the numbers grow too long.
                    if pushes < 2 and (at == 0 or desk.states[-1] == zero_row(size)) and source.randrange(2):
                        desk.take_deed(("push", drawn_row(desk.field, source, size)))
                        pushes += 1
                    elif exchanges < 2 and at > 0 and desk.states[-1] == zero_row(size) and source.randrange(2):
                        desk.take_deed(("exchange", source.choice(plants)))
                        exchanges += 1
                    desk.take_deed(("tick",))
                self.assertLessEqual(self.unrest(desk, began), unrest_ticks(size, inputs, rank, exchanges, pushes))
                self.assertLessEqual(len(desk.duty.stretches), exchanges + pushes)


class Keepers(unittest.TestCase):
    def test_the_box_is_not_left(self):
        many = 0
        for size, inputs in ((1, 1), (1, 2), (1, 3), (2, 1), (2, 2), (3, 1)):
            fit, plant = calm_fit(size, inputs, 0)
            pushes = packed_row(FRACTIONS, [Fraction(1, 50)] * size)
            source = Random(size + inputs)
            # The record alone tells the plants that agree: there are no priors at a desk.
            told = Fit(fit.record, pushes)
            box = Box([(-1, 1)] * size, [(1, 1)] * size)
            for other in [plant] + drawn_agreeing(told, plant, 2, 1)[1:4]:
                self.assertIsNot(lot_of(told, other), None)
                desk = Desk(FRACTIONS, size, inputs)
                desk.take_deed(("plant", other))
                for x, u, y in fit.record.rows:
                    desk.take_deed(("row", x, u, y))
                desk.take_deed(("begin", packed_row(FRACTIONS, [Fraction(source.randint(-4, 4), 4) for _ in range(size)])))
                self.assertIsInstance(desk.take_deed(("keep", pushes, 0, box, Bounds([None] * inputs, [None] * inputs))), Keeper)
                # With several states the numbers grow twice as long in each tick.
                for _ in range(20 if size == 1 else 5):
                    left = [Fraction(1, 50)] * size
                    for _ in range(2):
                        push = [source.randint(-2, 2) * part / 4 for part in left]
                        left = [part - abs(given) for part, given in zip(left, push)]
                        desk.take_deed(("push", packed_row(FRACTIONS, push)))
                    if source.randrange(4) == 0:
                        desk.take_deed(("exchange", plant if source.randrange(2) else other))
                    desk.take_deed(("tick",))
                    self.assertTrue(box.holds(desk.states[-1]))
                    many += 1
                self.assertIsInstance(desk.duty, Keeper)
        self.assertGreater(many, 100)

    def test_pushes_that_are_too_large(self):
        fit, plant = calm_fit(1, 1, 0)
        desk = Desk(FRACTIONS, 1, 1)
        desk.take_deed(("plant", plant))
        for x, u, y in fit.record.rows:
            desk.take_deed(("row", x, u, y))
        desk.take_deed(("begin", ((1, 1),)))
        desk.take_deed(("keep", ((0, 1),), 0, Box([(-1, 1)], [(1, 1)]), Bounds([None], [None])))
        desk.take_deed(("push", ((5, 1),)))
        desk.take_deed(("tick",))
        self.assertFalse(desk.duty.box.holds(desk.states[-1]))
        self.assertGreater(opened(desk.states[-1])[0], 1)


if __name__ == "__main__":
    unittest.main()
