import unittest
from fractions import Fraction
from itertools import product
from random import Random

from kinds import check_all_unlike, check_equal, check_result
from sums import FRACTIONS, NO_ROWS, all_tuples, lists, opened, packed_row, raised, wholes
from untaughthelm.boxes import Bounds, Box, Keeper
from untaughthelm.errors import BadBounds, BadBox, BadRow, Outside

ZERO = (0, 1)
ONE = (1, 1)

NO_FRACTIONS = (3, True, "1", (1, 0), (2, 4), (1, -1), [1, 1], (True, 1), (1,))


def drawn_box(source, size):
    lows = [Fraction(source.randint(-6, 3), source.choice((1, 2))) for _ in range(size)]
    return Box(packed_row(FRACTIONS, lows),
               packed_row(FRACTIONS, [low + Fraction(source.randint(1, 9), source.choice((1, 3))) for low in lows]))


class Boxes(unittest.TestCase):
    def check(self, due, low, high):
        self.assertEqual(raised(Box, low, high), None if due is None else (BadBox, (due,)))

    def test_low(self):
        for low in (None, 3, "ab", (), [ONE] * 5, {ONE: 1}, (None,), *[(ZERO, n) for n in NO_FRACTIONS]):
            self.check("low", low, wholes(9))
            self.check("low", low, None)
        for size in (1, 2, 3, 4):
            self.check(None, [ZERO] * size, (ONE,) * size)

    def test_high(self):
        for high in NO_ROWS + ((None, ONE), wholes(9, 9, 9)):
            self.check("high", wholes(0, 0), high)
        for number in NO_FRACTIONS:
            self.check("high", wholes(0, 0), (ONE, number))

    def test_order(self):
        for low, high in ((wholes(0), wholes(0)), (wholes(1), wholes(0)), (wholes(0, 3), wholes(1, 2)),
                          (wholes(0, 3), wholes(1, 3)), (wholes(4, 0), wholes(1, 1)), (((1, 2),), ((1, 3),))):
            self.check("order", low, high)
        self.check(None, ((1, 3),), ((1, 2),))
        self.check(None, wholes(-2, -5), wholes(-1, 5))

    def test_attributes(self):
        low, high = lists(wholes(-1, 0)), lists(wholes(1, 5))
        box = Box(low=low, high=high)
        low[0], high[0] = (9, 1), (9, 1)
        self.assertEqual((box.low, box.high, box.size), (wholes(-1, 0), wholes(1, 5), 2))
        self.assertTrue(all_tuples((box.low, box.high)))

    def test_equality(self):
        check_all_unlike(self, [Box(wholes(0), wholes(1)), Box(wholes(0), wholes(2)), Box(wholes(-1), wholes(1)),
                                Box(wholes(0, 0), wholes(1, 1)), Bounds(wholes(0), wholes(1))])
        check_equal(self, Box(wholes(0), wholes(1)), Box([ZERO], [ONE]))

    def test_corners(self):
        for size in (1, 2, 3, 4):
            box = Box(wholes(*range(-size, 0)), wholes(*range(1, size + 1)))
            digits = box.corners()
            self.assertEqual(digits, tuple(product((0, 1), repeat=size)))
            self.assertEqual(list(digits), sorted(digits))
            for told in digits:
                due = tuple(box.high[place] if digit else box.low[place] for place, digit in enumerate(told))
                self.assertEqual(box.corner(told), due)
                self.assertEqual(box.corner(digits=list(told)), due)

    def test_holds(self):
        source = Random(1)
        for size in (1, 2, 3, 4):
            box = drawn_box(source, size)
            for told in box.corners():
                corner = box.corner(told)
                self.assertTrue(box.holds(corner))
                self.assertTrue(box.holds(x=list(corner)))
                for place in range(size):
                    for step in (Fraction(1, 10 ** 9), 100):
                        beyond = opened(corner)
                        beyond[place] += step if told[place] else -step
                        self.assertFalse(box.holds(packed_row(FRACTIONS, beyond)))
                        beyond[place] -= (2 if step < 1 else 1) * (step if told[place] else -step)
                        self.assertTrue(box.holds(packed_row(FRACTIONS, beyond)))


class Bounding(unittest.TestCase):
    def check(self, due, low, high):
        self.assertEqual(raised(Bounds, low, high), None if due is None else (BadBounds, (due,)))

    def test_low(self):
        for low in (3, "ab", (), [ONE] * 4, {ONE: 1}, *[(ZERO, n) for n in NO_FRACTIONS]):
            self.check("low", low, wholes(9))
            self.check("low", low, 3)
        self.check("low", None, [None])
        for many in (1, 2, 3):
            self.check(None, [None] * many, (None,) * many)

    def test_high(self):
        for high in (None, 3, "ab", (), wholes(9), wholes(9, 9, 9), [None], {ONE: 1, ZERO: 2}):
            self.check("high", wholes(0, 0), high)
        for number in NO_FRACTIONS:
            self.check("high", [None, None], (ONE, number))

    def test_order(self):
        for low, high in ((wholes(1), wholes(0)), ([None, ONE], [None, ZERO]), (wholes(0, 3), wholes(1, 2))):
            self.check("order", low, high)
        for low, high in ((wholes(1), wholes(1)), ([None], wholes(-5)), (wholes(7), [None]), (((1, 3),), ((1, 2),))):
            self.check(None, low, high)

    def test_attributes(self):
        low, high = [None, (-1, 2)], [ONE, None]
        bounds = Bounds(low=low, high=high)
        low[0], high[0] = ZERO, ZERO
        self.assertEqual((bounds.low, bounds.high, bounds.inputs), ((None, (-1, 2)), (ONE, None), 2))
        self.assertIsInstance(bounds.low, tuple)
        self.assertIsInstance(bounds.high, tuple)

    def test_equality(self):
        check_all_unlike(self, [Bounds([None], [None]), Bounds([ZERO], [None]), Bounds([None], [ZERO]),
                                Bounds([None, None], [None, None]), Box([ZERO], [ONE]), Bounds([ZERO], [ZERO])])
        check_equal(self, Bounds([None], (ONE,)), Bounds((None,), [ONE]))

    def test_holds(self):
        bounds = Bounds([None, (-1, 2), ZERO], [ONE, None, ZERO])
        for u, due in (((ONE, (-1, 2), ZERO), True), (((-10 ** 9, 1), (10 ** 9, 1), ZERO), True),
                       (((1000001, 1000000), ZERO, ZERO), False), ((ZERO, (-500001, 1000000), ZERO), False),
                       ((ZERO, ZERO, (1, 10 ** 9)), False), ((ZERO, ZERO, (-1, 10 ** 9)), False)):
            self.assertIs(bounds.holds(u), due)
            self.assertIs(bounds.holds(u=list(u)), due)
        self.assertIs(Bounds([None], [None]).holds([(-3, 7)]), True)


class Choosing(unittest.TestCase):
    def test_result(self):
        check_result(self, Keeper, ("box", "inputs"))

    def keepers(self):
        source = Random(2)
        for size in (1, 2, 3, 4):
            for inputs in (1, 2, 3):
                box = drawn_box(source, size)
                yield source, Keeper(box, tuple(packed_row(FRACTIONS, [source.randint(-9, 9) for _ in range(inputs)])
                                                for _ in box.corners()))

    def test_at_the_corners(self):
        for source, keeper in self.keepers():
            for told, put in zip(keeper.box.corners(), keeper.inputs):
                self.assertEqual(keeper.choose(keeper.box.corner(told)), put)
                self.assertEqual(keeper.choose(x=list(keeper.box.corner(told))), put)

    def test_the_sum_as_told(self):
        for source, keeper in self.keepers():
            box, size = keeper.box, keeper.box.size
            for _ in range(6):
                shares = [Fraction(source.randint(0, 7), 7) for _ in range(size)]
                x = [low + share * (high - low) for share, low, high in zip(shares, opened(box.low), opened(box.high))]
                due = [Fraction(0)] * len(keeper.inputs[0])
                for told, put in zip(product((0, 1), repeat=size), keeper.inputs):
                    weight = Fraction(1)
                    for share, digit in zip(shares, told):
                        weight *= share if digit else 1 - share
                    due = [part + weight * number for part, number in zip(due, opened(put))]
                told = keeper.choose(packed_row(FRACTIONS, x))
                self.assertTrue(all_tuples(told))
                self.assertEqual(opened(told), due)

    def test_inputs_as_lists(self):
        keeper = Keeper(Box(wholes(0), wholes(2)), [[ZERO, ONE], [(4, 1), ZERO]])
        self.assertEqual(keeper.choose([ONE]), ((2, 1), (1, 2)))
        self.assertEqual(keeper.inputs, [[ZERO, ONE], [(4, 1), ZERO]])

    def test_errors(self):
        keeper = Keeper(Box(wholes(0, -1), wholes(2, 1)), (wholes(0),) * 4)
        for x in NO_ROWS:
            self.assertEqual(raised(keeper.choose, x), (BadRow, ("x",)))
        for x, state in ((wholes(3, 0), 0), (wholes(-1, 0), 0), (wholes(3, 5), 0), (wholes(1, 2), 1), (wholes(2, -2), 1),
                         (((2000001, 1000000), ZERO), 0), ((ONE, (-1000001, 1000000)), 1)):
            self.assertEqual(raised(keeper.choose, x), (Outside, (state,)))
            self.assertEqual(raised(keeper.choose, list(x)), (Outside, (state,)))
        for x in (wholes(0, -1), wholes(2, 1), wholes(0, 1), wholes(1, 0)):
            self.assertEqual(keeper.choose(x), wholes(0))


if __name__ == "__main__":
    unittest.main()
