import unittest
from fractions import Fraction
from random import Random

from disturbed import drawn_agreeing, drawn_fit, one_fit, own_lots, pushed
from kept import check_lost, is_bound, is_let, is_safe, kept_boxes, safe_interval
from kinds import check_result
from sums import FRACTIONS, opened, packed_row, plant_of, raised, wholes
from timing import Timed, long_whole
from untaughthelm.boxes import Bounds, Box, Keeper
from untaughthelm.errors import BadBounds, BadBox, NoFit
from untaughthelm.fits import Fit, Prior
from untaughthelm.keeping import Blow, Lost, Stop, keep
from untaughthelm.records import Record

ZERO = (0, 1)
ONE = (1, 1)
TENTH = (1, 10)
FREE = Bounds([None], [None])
UNIT = Box(wholes(-1), wholes(1))


class Results(unittest.TestCase):
    def test_results(self):
        check_result(self, Blow, ("lot", "plant", "state", "side"))
        check_result(self, Stop, ("place", "side"))
        check_result(self, Lost, ("corner", "blows", "weights"))


class Keeping(unittest.TestCase):
    def test_each_kind_comes(self):
        kinds = {}
        for fit, plant, box, bounds, told in kept_boxes():
            key = (type(told), fit.wrong > 0, fit.record.size)
            kinds[key] = kinds.get(key, 0) + 1
        self.assertEqual(len(kinds), 12, kinds)
        self.assertTrue(all(many > 1 for many in kinds.values()), kinds)
        sides = {(type(blow), blow.side) for *_, told in kept_boxes() if isinstance(told, Lost) for blow in told.blows}
        self.assertEqual(sides, {(kind, side) for kind in (Blow, Stop) for side in ("low", "high")})

    def test_keepers_are_safe_at_each_corner(self):
        for fit, plant, box, bounds, told in kept_boxes():
            if isinstance(told, Keeper):
                self.assertEqual(told.box, box)
                self.assertIsInstance(told.inputs, tuple)
                self.assertEqual(len(told.inputs), 2 ** box.size)
                for digits, u in zip(box.corners(), told.inputs):
                    self.assertIsInstance(u, tuple)
                    self.assertTrue(FRACTIONS.holds_row(u, bounds.inputs))
                    self.assertTrue(is_safe(fit, box, bounds, box.corner(digits), u))

    def test_keepers_against_plants_that_agree(self):
        many = 0
        for fit, plant, box, bounds, told in kept_boxes():
            if isinstance(told, Keeper) and fit.record.size + fit.record.inputs <= 3:
                for other in drawn_agreeing(fit, plant, 8, 3):
                    for digits, u in zip(box.corners(), told.inputs):
                        for sign in (1, -1):
                            push = tuple(FRACTIONS.times((sign, 1), part) for part in fit.pushes)
                            self.assertTrue(box.holds(pushed(other, box.corner(digits), u, push)))
                            many += 1
        self.assertGreater(many, 500)

    def test_losts_prove_what_they_say(self):
        for fit, plant, box, bounds, told in kept_boxes():
            if isinstance(told, Lost):
                check_lost(self, fit, box, bounds, told)

    def test_the_least_corner_is_lost(self):
        kinds = set()
        for fit, plant, box, bounds, told in kept_boxes():
            if fit.record.inputs == 1 and fit.record.size + len(fit.priors) <= 5:
                if all(is_bound(fit, lot, state) for lot in own_lots(fit) for state in range(box.size)):
                    lost = [digits for digits in box.corners() if safe_interval(fit, box, bounds, digits) is None]
                    self.assertEqual(type(told), Lost if lost else Keeper)
                    if lost:
                        self.assertEqual(told.corner, lost[0])
                    kinds.add((fit.record.size, len(lost)))
        self.assertTrue({(1, 0), (2, 0), (2, 2), (3, 0), (3, 8)} <= kinds, kinds)

    def test_single_corners(self):
        # From -1 the input may be 1 or more, from 1 it may not be -1 or less.
        fit = one_fit(((1, 0, 2), (0, 1, 1)))
        told = keep(fit, UNIT, Bounds([ZERO], [None]))
        self.assertEqual(told.corner, (1,))
        check_lost(self, fit, UNIT, Bounds([ZERO], [None]), told)
        told = keep(fit, UNIT, Bounds([None], [ZERO]))
        self.assertEqual(told.corner, (0,))
        check_lost(self, fit, UNIT, Bounds([None], [ZERO]), told)
        told = keep(fit, UNIT, FREE)
        self.assertTrue(1 <= Fraction(*told.inputs[0][0]) <= 3)
        self.assertTrue(-3 <= Fraction(*told.inputs[1][0]) <= -1)

    def test_two_states(self):
        # Two inputs, one for each state: what is let of the second one decides at the corners (0, 1) and (1, 1).
        plant = plant_of(FRACTIONS, [[2, 0], [0, 2]], [[1, 0], [0, 1]])
        rows = [(x, u, plant.step(x, u)) for x, u in ((wholes(1, 0), wholes(0, 0)), (wholes(0, 1), wholes(0, 0)),
                                                      (wholes(0, 0), wholes(1, 0)), (wholes(0, 0), wholes(0, 1)))]
        fit, box = Fit(Record(FRACTIONS, 2, 2, rows), wholes(0, 0)), Box(wholes(-1, -1), wholes(1, 1))
        for low, due in ((wholes(-1, 0), (0, 1)), ([ZERO, None], (1, 0)), ([ZERO, ZERO], (0, 1))):
            bounds = Bounds(low, [None, None])
            told = keep(fit, box, bounds)
            self.assertEqual(told.corner, due)
            check_lost(self, fit, box, bounds, told)
        self.assertIsInstance(keep(fit, box, Bounds(wholes(-1, -1), [None, None])), Keeper)

    def test_bounds(self):
        fit = one_fit(((1, 0, 2), (0, 1, 1)), TENTH)
        for low, high, kind in ((None, None, Keeper), (-2, 2, Keeper), ((-7, 5), (7, 5), Keeper), ((-13, 10), 2, Lost),
                                (-2, 1, Lost), (0, 0, Lost), (5, 5, Lost), (None, 1, Lost), (4, None, Lost)):
            low, high = [end if end is None or isinstance(end, tuple) else (end, 1) for end in (low, high)]
            told = keep(fit, UNIT, Bounds([low], [high]))
            self.assertIsInstance(told, kind)
            if kind is Lost:
                check_lost(self, fit, UNIT, Bounds([low], [high]), told)
            else:
                self.assertTrue(all(is_let(Bounds([low], [high]), u) for u in told.inputs))
        # One input alone is let, and it is safe.
        still = one_fit(((1, 0, Fraction(1, 2)), (0, 1, 1)), TENTH)
        self.assertEqual(keep(still, UNIT, Bounds([ZERO], [ZERO])), Keeper(UNIT, (wholes(0),) * 2))

    def test_a_push_that_is_too_large(self):
        for push, kind in (((1, 1), Keeper), ((11, 10), Lost), ((5, 1), Lost)):
            fit = Fit(Record(FRACTIONS, 1, 1), [push], [Prior(0, (ONE, ZERO), ZERO, ZERO), Prior(0, (ZERO, ONE), ONE, ONE)])
            told = keep(fit, UNIT, FREE)
            self.assertIsInstance(told, kind)
            if kind is Lost:
                self.assertEqual(told.corner, (0,))
                check_lost(self, fit, UNIT, FREE, told)

    def test_a_single_safe_input(self):
        # A plant that is known, and a box that is twice the push: one point is left.
        fit = one_fit(((1, 0, 2), (0, 1, 1)), ONE, [Prior(0, (ONE, ZERO), (2, 1), (2, 1)), Prior(0, (ZERO, ONE), ONE, ONE)])
        self.assertEqual(keep(fit, UNIT, FREE), Keeper(UNIT, (wholes(2), wholes(-2))))


class FurtherOut(unittest.TestCase):
    """Records that leave some plants ever further out."""

    def test_no_rows(self):
        for size, inputs in ((1, 1), (2, 2), (1, 3), (3, 1)):
            for wrong in (0, 2):
                fit = Fit(Record(FRACTIONS, size, inputs), [ZERO] * size, (), wrong)
                box = Box([(-1, 1)] * size, [ONE] * size)
                for bounds in (Bounds([None] * inputs, [None] * inputs), Bounds([ZERO] * inputs, [ONE] * inputs)):
                    told = keep(fit, box, bounds)
                    self.assertEqual(told.corner, (0,) * size)
                    check_lost(self, fit, box, bounds, told)

    def test_an_input_that_is_not_known(self):
        # a is known and b is not, so that no input but 0 may be put.
        for a, bounds, due in ((Fraction(1, 2), FREE, None), (1, FREE, None), (2, FREE, (0,)),
                               (Fraction(1, 2), Bounds([ONE], [None]), (0,)), (1, Bounds([ZERO], [ZERO]), None),
                               (Fraction(1, 2), Bounds([None], [(-1, 9)]), (0,)), (-3, Bounds([ZERO], [(5, 1)]), (0,))):
            fit = one_fit(((1, 0, a),))
            told = keep(fit, UNIT, bounds)
            if due is None:
                self.assertEqual(told, Keeper(UNIT, (wholes(0),) * 2))
            else:
                self.assertEqual(told.corner, due)
                check_lost(self, fit, UNIT, bounds, told)

    def test_a_sum_that_is_known(self):
        # 2 a + b is 0 alone: at the state -1 the input must be -1/2, at 1 it must be 1/2.
        fit = one_fit(((2, 1, 0),))
        self.assertEqual(keep(fit, UNIT, FREE), Keeper(UNIT, (((-1, 2),), ((1, 2),))))
        for bounds, due in ((Bounds([ZERO], [None]), (0,)), (Bounds([None], [ZERO]), (1,))):
            told = keep(fit, UNIT, bounds)
            self.assertEqual(told.corner, due)
            check_lost(self, fit, UNIT, bounds, told)

    def test_ever_further_on_one_side(self):
        # b is 1 or more, a is 2: from -1 the input 1 would be safe but for larger b.
        fit = one_fit((), ZERO, [Prior(0, (ONE, ZERO), (2, 1), (2, 1)), Prior(0, (ZERO, ONE), ONE, None)])
        told = keep(fit, UNIT, FREE)
        self.assertEqual(told.corner, (0,))
        check_lost(self, fit, UNIT, FREE, told)
        # a is 1 or less: the states -1 and 1 are led ever further out, to 1 - ever, whatever is put.
        fit = one_fit((), ZERO, [Prior(0, (ONE, ZERO), None, ONE), Prior(0, (ZERO, ONE), ONE, ONE)])
        told = keep(fit, UNIT, FREE)
        check_lost(self, fit, UNIT, FREE, told)

    def test_far_along_a_ray(self):
        # The corner is near and the box is wide, so that two plants must be far apart.
        box = Box(wholes(1), wholes(100))
        for push in (0, 33, 40, 49, 60):
            fit = Fit(Record(FRACTIONS, 1, 1), wholes(push))
            told = keep(fit, box, FREE)
            self.assertEqual(told.corner, (0,))
            check_lost(self, fit, box, FREE, told)

    def test_all_few_rows(self):
        kinds = set()
        for seed in range(60):
            size, inputs = ((1, 1), (2, 1), (1, 2), (2, 2), (1, 3), (3, 1))[seed % 6]
            fit, plant = drawn_fit(seed, size, inputs, seed % 3, 0, seed % 5)
            box = Box([(-2, 1)] * size, [(3, 1)] * size)
            for bounds in (Bounds([None] * inputs, [None] * inputs), Bounds([(-1, 1)] * inputs, [None] * inputs)):
                told = keep(fit, box, bounds)
                kinds.add(type(told))
                if isinstance(told, Lost):
                    check_lost(self, fit, box, bounds, told)
                else:
                    for digits, u in zip(box.corners(), told.inputs):
                        self.assertTrue(is_safe(fit, box, bounds, box.corner(digits), u))
        self.assertEqual(kinds, {Lost, Keeper})


class Running(unittest.TestCase):
    def test_a_kept_box_is_not_left(self):
        source, many = Random(1), 0
        for fit, plant, box, bounds, told in kept_boxes():
            if isinstance(told, Keeper):
                others = drawn_agreeing(fit, plant, 2, 5) if fit.record.size + fit.record.inputs <= 3 else [plant]
                for other in others:
                    shares = [Fraction(source.randint(0, 4), 4) for _ in range(box.size)]
                    x = packed_row(FRACTIONS, [low + share * (high - low) for share, low, high
                                               in zip(shares, opened(box.low), opened(box.high))])
                    # With several states the numbers grow twice as long in each tick.
                    for _ in range(20 if box.size == 1 else 4):
                        u = told.choose(x)
                        self.assertTrue(is_let(bounds, u))
                        push = packed_row(FRACTIONS, [Fraction(source.randint(-2, 2), 2) * part for part in opened(fit.pushes)])
                        x = pushed(other, x, u, push)
                        self.assertTrue(box.holds(x))
                        many += 1
        self.assertGreater(many, 500)


class Errors(unittest.TestCase):
    def test_errors(self):
        fit, none = one_fit(((1, 0, 2),)), one_fit(((0, 0, 2),))
        two, bounds_of_two = Box(wholes(0, 0), wholes(1, 1)), Bounds([None, None], [None, None])
        for told in (fit, none):
            self.assertEqual(raised(keep, told, two, FREE), (BadBox, ("size",)))
            self.assertEqual(raised(keep, told, two, bounds_of_two), (BadBox, ("size",)))
            self.assertEqual(raised(keep, told, UNIT, bounds_of_two), (BadBounds, ("size",)))
        self.assertEqual(raised(keep, none, UNIT, FREE), (NoFit, ()))
        wide = Fit(Record(FRACTIONS, 2, 3), [ZERO, ZERO])
        self.assertEqual(raised(keep, wide, UNIT, FREE), (BadBox, ("size",)))
        self.assertEqual(raised(keep, wide, two, bounds_of_two), (BadBounds, ("size",)))

    def test_nothing_is_changed(self):
        fit, plant = drawn_fit(4, 2, 1, 4, 1, 3)
        other, _ = drawn_fit(4, 2, 1, 4, 1, 3)
        box, bounds = Box(wholes(-1, -1), wholes(1, 1)), Bounds([None], [ONE])
        first = keep(fit, box, bounds)
        self.assertEqual(keep(fit, box=box, bounds=bounds), first)
        self.assertEqual((fit, box, bounds), (other, Box(wholes(-1, -1), wholes(1, 1)), Bounds([None], [ONE])))


class Times(Timed):
    def test_the_greatest_sizes(self):
        kinds = set()
        for size, inputs in ((3, 1), (2, 2), (1, 3)):
            for many, wrong, priors in ((6, 0, 6), (4, 2, 6), (4, 2, 0), (4, 1, 6), (6, 0, 0)):
                for seed in range(3):
                    fit, plant = drawn_fit(seed, size, inputs, many, wrong, priors)
                    for scale in (1, 20):
                        box = Box([(-scale, 1)] * size, [(scale, 1)] * size)
                        kinds.add(type(self.timed(keep, fit, box, Bounds([None] * inputs, [(30, 1)] * inputs))))
        self.assertEqual(kinds, {Keeper, Lost})

    def test_long_numbers(self):
        source = Random(2)
        for size, inputs in ((3, 1), (2, 2), (1, 3)):
            rows = [tuple(tuple(long_whole(source) for _ in range(width)) for width in (size, inputs, size)) for _ in range(6)]
            fit = Fit(Record(FRACTIONS, size, inputs, rows), [(10 ** 30, 1)] * size)
            box = Box([(-10 ** 29, 1)] * size, [(10 ** 29 + 1, 3)] * size)
            self.timed(keep, fit, box, Bounds([None] * inputs, [None] * inputs))

    def test_beyond_them_nothing_is_raised(self):
        for size, inputs, many, wrong in ((4, 3, 6, 0), (4, 3, 4, 2), (4, 1, 6, 0), (3, 3, 0, 0)):
            fit, plant = drawn_fit(9, size, inputs, many, wrong, 6)
            box = Box([(-9, 1)] * size, [(9, 1)] * size)
            told = keep(fit, box, Bounds([None] * inputs, [None] * inputs))
            self.assertIsInstance(told, (Keeper, Lost))


if __name__ == "__main__":
    unittest.main()
