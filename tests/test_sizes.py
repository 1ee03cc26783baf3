import unittest
from fractions import Fraction

from disturbed import RECORD, calm_fit, drawn_fit
from kept import asked_boxes
from kinds import check_result
from sums import FRACTIONS, packed_row, raised, wholes
from timing import Timed
from untaughthelm.boxes import Bounds, Box, Keeper
from untaughthelm.errors import BadBounds, BadBox, NoFit
from untaughthelm.fits import Fit, Prior
from untaughthelm.keeping import keep
from untaughthelm.records import Record
from untaughthelm.sizes import Sizes, kept_sizes

ZERO = (0, 1)
ONE = (1, 1)
FREE = Bounds([None], [None])
UNIT = Box(wholes(-1), wholes(1))
NEAR = Fraction(1, 10 ** 6)


def times_as_large(box, q):
    """The box q times as large, for a q above 0."""
    return Box(packed_row(FRACTIONS, [q * Fraction(*end) for end in box.low]),
               packed_row(FRACTIONS, [q * Fraction(*end) for end in box.high]))


def known_fit(a, b, push=0):
    """A plant of one state and one input that is known."""
    a, b, push = packed_row(FRACTIONS, [a, b, push])
    return Fit(Record(FRACTIONS, 1, 1), [push], [Prior(0, (ONE, ZERO), a, a), Prior(0, (ZERO, ONE), b, b)])


class Results(unittest.TestCase):
    def test_result(self):
        check_result(self, Sizes, ("least", "greatest"))


class Kept(unittest.TestCase):
    def is_kept(self, fit, box, bounds, q):
        return isinstance(keep(fit, times_as_large(box, q), bounds), Keeper)

    def check_sizes(self, fit, box, bounds):
        """Just inside and just outside each end, against keep of the box that is so many times as large."""
        told = kept_sizes(fit, box, bounds)
        if told is None:
            for q in (NEAR, Fraction(1, 2), 1, 7, 1000):
                self.assertFalse(self.is_kept(fit, box, bounds, q))
            return "none"
        self.assertIsInstance(told, Sizes)
        self.assertTrue(FRACTIONS.holds(told.least))
        least = Fraction(*told.least)
        self.assertGreaterEqual(least, 0)
        if least > 0:
            self.assertTrue(self.is_kept(fit, box, bounds, least))
            for q in (least * (1 - NEAR), least / 2):
                self.assertFalse(self.is_kept(fit, box, bounds, q))
        if told.greatest is None:
            for q in (least + NEAR, least + 1, least + 10 ** 6):
                self.assertTrue(self.is_kept(fit, box, bounds, q))
            return "ever" if least else "all"
        self.assertTrue(FRACTIONS.holds(told.greatest))
        greatest = Fraction(*told.greatest)
        self.assertLessEqual(least, greatest)
        for q in (greatest, (least + greatest) / 2):
            if q > 0:
                self.assertTrue(self.is_kept(fit, box, bounds, q))
        for q in (greatest + NEAR, greatest * 2 + 1):
            self.assertFalse(self.is_kept(fit, box, bounds, q))
        return "one" if least == greatest else "some"

    def test_the_example(self):
        self.assertEqual(kept_sizes(Fit(RECORD, [(1, 10)]), UNIT, FREE), Sizes((2, 15), None))
        self.assertIs(kept_sizes(Fit(RECORD, [(1, 2)]), UNIT, FREE), None)

    def test_against_keep(self):
        kinds = {}
        for fit, plant, box, bounds in asked_boxes():
            kind = self.check_sizes(fit, box, bounds)
            kinds[kind] = kinds.get(kind, 0) + 1
        self.assertTrue({"none", "ever", "all", "some"} <= set(kinds), kinds)

    def test_plants_that_are_known(self):
        # x' = 2 x + u + w: the input that is let, 3 at most, leads q back to q - 1 if q is 3 + 1 less the push at most.
        for push, least, greatest in ((0, 0, 3), (1, 1, 2), (Fraction(3, 2), Fraction(3, 2), Fraction(3, 2))):
            told = kept_sizes(known_fit(2, 1, push), UNIT, Bounds([(-3, 1)], [(3, 1)]))
            self.assertEqual((Fraction(*told.least), Fraction(*told.greatest)), (least, greatest))
            self.check_sizes(known_fit(2, 1, push), UNIT, Bounds([(-3, 1)], [(3, 1)]))
        self.assertIs(kept_sizes(known_fit(2, 1, 2), UNIT, Bounds([(-3, 1)], [(3, 1)])), None)
        # No input moves it: the box is kept if a is 1 or less and the push leaves room.
        self.assertEqual(kept_sizes(known_fit(1, 0), UNIT, FREE), Sizes(ZERO, None))
        self.assertEqual(kept_sizes(known_fit(2, 0), UNIT, FREE), Sizes(ZERO, ZERO))
        self.assertIs(kept_sizes(known_fit(2, 0, 1), UNIT, FREE), None)
        self.assertEqual(kept_sizes(known_fit(Fraction(1, 2), 0, 1), UNIT, FREE), Sizes((2, 1), None))
        self.assertIs(kept_sizes(known_fit(1, 0, Fraction(1, 9)), UNIT, FREE), None)

    def test_the_state_0_alone(self):
        # An input that must be put moves the state 0, and a box of any size about it has to be large enough.
        told = kept_sizes(known_fit(Fraction(1, 2), 1), UNIT, Bounds([ONE], [(3, 1)]))
        self.assertEqual(told, Sizes((2, 1), None))
        self.assertEqual(kept_sizes(known_fit(Fraction(1, 2), 0), UNIT, Bounds([ONE], [(3, 1)])), Sizes(ZERO, None))
        self.assertEqual(kept_sizes(known_fit(3, 0), UNIT, Bounds([ONE], [(3, 1)])), Sizes(ZERO, ZERO))
        # Nobody knows anything: at 0 alone, without a push, the input 0 is safe.
        self.assertEqual(kept_sizes(Fit(Record(FRACTIONS, 1, 1), [ZERO]), UNIT, FREE), Sizes(ZERO, ZERO))
        self.assertIs(kept_sizes(Fit(Record(FRACTIONS, 1, 1), [ZERO]), UNIT, Bounds([ONE], [None])), None)
        self.assertIs(kept_sizes(Fit(Record(FRACTIONS, 1, 1), [(1, 9)]), UNIT, FREE), None)

    def test_a_box_beside_0(self):
        # The box from 1 to 2, of a plant that stands still by itself: it is kept at all sizes.
        box = Box(wholes(1), wholes(2))
        self.assertEqual(kept_sizes(known_fit(1, 0), box, FREE), Sizes(ZERO, None))
        self.assertEqual(self.check_sizes(known_fit(3, 1, Fraction(1, 2)), box, Bounds([(-9, 1)], [None])), "some")
        self.assertEqual(kept_sizes(known_fit(3, 1, Fraction(1, 2)), box, Bounds([(-9, 1)], [None])), Sizes(ONE, (17, 8)))

    def test_a_single_size(self):
        # The push asks for 1 or more, the bounds for 1 or less.
        told = kept_sizes(known_fit(2, 1, 1), UNIT, Bounds([(-2, 1)], [(2, 1)]))
        self.assertEqual(told, Sizes(ONE, ONE))
        self.assertEqual(self.check_sizes(known_fit(2, 1, 1), UNIT, Bounds([(-2, 1)], [(2, 1)])), "one")

    def test_corners_that_ask_for_unlike_sizes(self):
        # From high the inputs lead far enough for sizes of 4 or less, from low of 2 or less.
        told = kept_sizes(known_fit(2, 1), UNIT, Bounds([(-4, 1)], [(2, 1)]))
        self.assertEqual(told, Sizes(ZERO, (2, 1)))
        told = kept_sizes(known_fit(2, 1), UNIT, Bounds([(-2, 1)], [(4, 1)]))
        self.assertEqual(told, Sizes(ZERO, (2, 1)))
        # One corner asks for more than the other one lets.
        self.assertIs(kept_sizes(known_fit(2, 1, 1), UNIT, Bounds([(-1, 1)], [(9, 1)])), None)


class Errors(unittest.TestCase):
    def test_errors(self):
        fit = Fit(RECORD, [(1, 10)])
        none = Fit(Record(FRACTIONS, 1, 1, [(wholes(0), wholes(0), wholes(2))]), [ONE])
        two, bounds_of_two = Box(wholes(0, 0), wholes(1, 1)), Bounds([None, None], [None, None])
        for told in (fit, none):
            self.assertEqual(raised(kept_sizes, told, two, bounds_of_two), (BadBox, ("size",)))
            self.assertEqual(raised(kept_sizes, told, UNIT, bounds_of_two), (BadBounds, ("size",)))
        self.assertEqual(raised(kept_sizes, none, UNIT, FREE), (NoFit, ()))
        self.assertEqual(kept_sizes(fit=fit, box=UNIT, bounds=FREE), Sizes((2, 15), None))


class Times(Timed):
    def test_the_greatest_sizes(self):
        for size, inputs in ((3, 1), (2, 2), (1, 3)):
            for many, wrong, priors in ((6, 0, 6), (4, 2, 6), (4, 2, 0), (4, 1, 6), (6, 0, 0)):
                for seed in range(3):
                    fit, plant = drawn_fit(seed, size, inputs, many, wrong, priors)
                    box = Box([(-20, 1)] * size, [(30, 1)] * size)
                    self.timed(kept_sizes, fit, box, Bounds([None] * inputs, [(30, 1)] * inputs))

    def test_beyond_them_nothing_is_raised(self):
        for size, inputs in ((4, 3), (4, 1), (3, 3)):
            fit, plant = calm_fit(size, inputs, 0) if inputs == 1 else drawn_fit(9, size, inputs, 6, 0, 6)
            box = Box([(-9, 1)] * size, [(9, 1)] * size)
            told = kept_sizes(fit, box, Bounds([None] * inputs, [None] * inputs))
            self.assertTrue(told is None or isinstance(told, Sizes))


if __name__ == "__main__":
    unittest.main()
