import unittest
from fractions import Fraction

from disturbed import RECORD, calm_fit, drawn_fit, one_fit
from kept import half_space, kept_boxes
from polyhedra import dot_of
from sums import FRACTIONS, lists, opened, packed_row, plant_of, raised, wholes
from timing import Timed
from untaughthelm.boxes import Bounds, Box, Keeper
from untaughthelm.errors import BadBounds, BadBox, NoFit
from untaughthelm.fields import Field
from untaughthelm.fits import Fit, some_plant
from untaughthelm.keeping import Blow, Lost, Stop, keep
from untaughthelm.keepjudges import keeper_fault, lost_fault
from untaughthelm.records import Record

ZERO = (0, 1)
ONE = (1, 1)
TENTH = (1, 10)
FREE = Bounds([None], [None])
UNIT = Box(wholes(-1), wholes(1))
FIT = Fit(RECORD, [TENTH])


class Keepers(unittest.TestCase):
    def test_none_for_what_keep_returns(self):
        for fit, plant, box, bounds, told in kept_boxes():
            if isinstance(told, Keeper):
                self.assertIs(keeper_fault(fit, box, bounds, told), None)
                self.assertIs(keeper_fault(fit, box, bounds, Keeper(told.box, lists(told.inputs))), None)

    def test_other_inputs_that_are_safe(self):
        # From 1 to 2 at the corner -1, and the negative of that at 1: a lies from 7/5 to 8/5, b from 9/10 to 11/10.
        for low, high, due in (((1, 1), (-1, 1), None), ((2, 3), (-2, 3), "corner"), ((7, 9), (-7, 9), None),
                               ((2, 1), (-2, 1), None), ((23, 11), (-23, 11), None), ((21, 10), (-1, 1), "corner"),
                               ((7, 10), (-1, 1), "corner"), ((1, 1), (-21, 10), "corner"), ((-1, 1), (1, 1), "corner")):
            self.assertEqual(keeper_fault(FIT, UNIT, FREE, Keeper(UNIT, ((low,), (high,)))), due)

    def test_the_order_of_the_words(self):
        good = ((ONE,), ((-1, 1),))
        let = Bounds([(-1, 1)], [ONE])

        def fault(box, inputs):
            return keeper_fault(FIT, UNIT, let, Keeper(box, inputs))

        self.assertIs(fault(UNIT, good), None)
        self.assertIs(fault(Box([(-1, 1)], [ONE]), [[ONE], [(-1, 1)]]), None)
        for box in (Box(wholes(-1), wholes(2)), Box(wholes(-1, -1), wholes(1, 1)), None, "box", let):
            for inputs in (good, None, ((ZERO,), (ZERO,))):
                self.assertEqual(fault(box, inputs), "box")
        for inputs in (None, 3, "ab", {}, (), good[:1], good + good[:1], ((ONE,), None), ((ONE,), (ONE, ONE)), ((ONE,), ()),
                       ((ONE,), (-1,)), ((ONE,), ((-2, 2),)), ((ONE,), ([-1, 1],)), (ONE, (-1, 1))):
            self.assertEqual(fault(UNIT, inputs), "inputs")
        for inputs in ((((5, 1),), ((-1, 1),)), ((ONE,), ((-11, 10),)), ((ZERO,), ((-3, 1),)), (((2, 1),), (ZERO,))):
            self.assertEqual(fault(UNIT, inputs), "bounds")
        for inputs in (((ZERO,), ((-1, 1),)), ((ONE,), (ZERO,)), (((-1, 1),), (ONE,))):
            self.assertEqual(fault(UNIT, inputs), "corner")

    def test_each_input_altered(self):
        many = 0
        for fit, plant, box, bounds, told in kept_boxes():
            if isinstance(told, Keeper):
                for at in range(len(told.inputs)):
                    far = told.inputs[:at] + (wholes(*[10 ** 9] * bounds.inputs),) + told.inputs[at + 1:]
                    due = "corner" if all(end is None for end in bounds.high) else "bounds"
                    # Where all plants that agree have a B of zeros, any input is safe.
                    fault = keeper_fault(fit, box, bounds, Keeper(box, far))
                    self.assertIn(fault, (due, None) if due == "corner" else (due,))
                    many += fault == "corner"
                    short = told.inputs[:at] + told.inputs[at + 1:]
                    self.assertEqual(keeper_fault(fit, box, bounds, Keeper(box, short)), "inputs")
        self.assertGreater(many, 10)

    def test_errors(self):
        check_errors(self, keeper_fault, Keeper(None, None))


def check_errors(case, fault, told):
    none = Fit(Record(FRACTIONS, 1, 1, [(wholes(0), wholes(0), wholes(2))]), [ONE])
    two, bounds_of_two = Box(wholes(0, 0), wholes(1, 1)), Bounds([None, None], [None, None])
    for fit in (FIT, none):
        case.assertEqual(raised(fault, fit, two, bounds_of_two, told), (BadBox, ("size",)))
        case.assertEqual(raised(fault, fit, UNIT, bounds_of_two, told), (BadBounds, ("size",)))
    case.assertEqual(raised(fault, none, UNIT, FREE, told), (NoFit, ()))


def listed(told):
    """The same Lost with lists wherever it has tuples."""
    blows = [Blow(list(blow.lot), blow.plant, blow.state, blow.side) if isinstance(blow, Blow) else blow
             for blow in told.blows]
    return Lost(list(told.corner), blows, list(told.weights))


# x' = 2 x + u, u from -1/2 to 1/2, the state 1 or -1: lost by the plant itself and one stop.
KNOWN = one_fit(((1, 0, 2), (0, 1, 1)))
TIGHT = Bounds([(-1, 2)], [(1, 2)])
PLANT = plant_of(FRACTIONS, [[2]], [[1]])
# At -1 the plant leads to -2 + u, which is to be -1 or more: - u <= -1 and u <= 1/2.
LOST = Lost((0,), (Blow((), PLANT, 0, "low"), Stop(0, "high")), wholes(2, 2))


class Losts(unittest.TestCase):
    def fault(self, corner=LOST.corner, blows=LOST.blows, weights=LOST.weights, bounds=TIGHT, fit=KNOWN):
        return lost_fault(fit, UNIT, bounds, Lost(corner, blows, weights))

    def test_none_for_what_keep_returns(self):
        many = 0
        for fit, plant, box, bounds, told in kept_boxes():
            if isinstance(told, Lost):
                self.assertIs(lost_fault(fit, box, bounds, told), None)
                self.assertIs(lost_fault(fit, box, bounds, listed(told)), None)
                many += 1
        self.assertGreater(many, 50)

    def test_what_is_right(self):
        self.assertIs(self.fault(), None)
        self.assertIs(self.fault([0], list(LOST.blows), list(LOST.weights)), None)
        # The other corner is lost, too.
        self.assertIs(self.fault((1,), (Blow([], PLANT, 0, "high"), Stop(0, "low"))), None)
        # The same in another order.
        self.assertIs(self.fault(blows=LOST.blows[::-1]), None)

    def test_corner(self):
        for corner in (None, 0, "0", (), (0, 0), (2,), (-1,), (True,), (False,), (None,), {0: 1}, (ZERO,), ("0",)):
            self.assertEqual(self.fault(corner), "corner")
            self.assertEqual(self.fault(corner, None, None), "corner")

    def test_blows(self):
        for blows in (None, 3, "ab", (), LOST.blows + LOST.blows[:1], {0: 1}, (LOST.blows[0], None), (None,),
                      (LOST.blows[0], LOST), ("low", "high"), [LOST.blows[1], 0]):
            self.assertEqual(self.fault(blows=blows), "blows")
            self.assertEqual(self.fault(blows=blows, weights=None), "blows")

    def both(self, bad, word):
        """A wrong entry as the first one and as the last one, also ahead of another wrong one and of wrong weights."""
        worse = Stop(5, None) if word != "state" else Blow((7,), None, None, None)
        for blows in ((bad, LOST.blows[1]), (LOST.blows[1], bad), (bad, worse), (bad,)):
            for weights in (LOST.weights, None):
                self.assertEqual(self.fault(blows=blows, weights=weights), word)

    def test_lot(self):
        for lot in (None, 0, "", (0,), ((),), {0: 1}, (0, 1), (True,)):
            self.both(Blow(lot, PLANT, 0, "low"), "lot")
            self.both(Blow(lot, None, None, None), "lot")

    def test_lots_with_which_no_plant_agrees(self):
        rows = [(wholes(1), wholes(0), wholes(y)) for y in (0, 1, 5)]
        fit = Fit(Record(FRACTIONS, 1, 1, rows), [ONE], (), 1)
        # The rows 0 and 2 do not agree; the lot (1,) is one of the lots, and its plant is wrong.
        for lot, due in (((1,), "plant"), ([1], "plant"), ((0, 1), "lot"), ((3,), "lot"), ((True,), "lot"), ((), "lot")):
            told = Lost((0,), (Blow(lot, plant_of(FRACTIONS, [[3]], [[0]]), 0, "low"),), (ONE,))
            self.assertEqual(lost_fault(fit, UNIT, FREE, told), due)

    def test_plant(self):
        for plant in (None, 3, "plant", plant_of(FRACTIONS, [[3]], [[1]]), plant_of(FRACTIONS, [[2]], [[2]]),
                      plant_of(Field(7), [[2]], [[1]]), plant_of(FRACTIONS, [[2]], [[1, 0]]),
                      plant_of(FRACTIONS, [[2, 0], [0, 2]], [[1], [1]]), LOST,
                      # The first numbers of its first row are right.
                      plant_of(FRACTIONS, [[2, 1], [0, 2]], [[1], [1]])):
            self.both(Blow((), plant, 0, "low"), "plant")
            self.both(Blow([], plant, None, None), "plant")

    def test_state(self):
        for state in (1, -1, None, True, False, "0", ZERO, 10 ** 9):
            self.both(Blow((), PLANT, state, "low"), "state")
            self.both(Blow((), PLANT, state, None), "state")
        for place in (1, -1, None, True, False, "0", ZERO):
            self.assertEqual(self.fault(blows=(Stop(place, "high"),)), "state")
            self.assertEqual(self.fault(blows=(LOST.blows[0], Stop(place, None))), "state")

    def test_side(self):
        for side in (None, 0, 1, "", "Low", "up", ("low",), ["low"], ZERO):
            self.both(Blow((), PLANT, 0, side), "side")
            self.assertEqual(self.fault(blows=(LOST.blows[0], Stop(0, side))), "side")
            self.assertEqual(self.fault(blows=(Stop(0, side), LOST.blows[0]), weights=None), "side")
        for bounds, side in ((Bounds([None], [(1, 2)]), "low"), (Bounds([(-1, 2)], [None]), "high"), (FREE, "low")):
            self.assertEqual(self.fault(blows=(LOST.blows[0], Stop(0, side)), bounds=bounds), "side")
        self.assertIs(self.fault(bounds=Bounds([None], [(1, 2)])), None)

    def test_weights(self):
        for weights in (None, 3, "ab", (), wholes(2), wholes(2, 2, 2), (2, 2), {ONE: 1, ZERO: 2}, wholes(2, 3), wholes(1, 2),
                        wholes(1, 1), wholes(4, 4), wholes(0, 2), wholes(2, 0), wholes(-2, -2), wholes(0, 0),
                        (ONE, (4, 2)), ([2, 1], [2, 1]), ((2, 1), None)):
            self.assertEqual(self.fault(weights=weights), "weights")
        # Right weights of a single entry do not add up to 0.
        self.assertEqual(self.fault(blows=LOST.blows[:1], weights=wholes(2)), "weights")
        self.assertEqual(self.fault(blows=LOST.blows[:1], weights=wholes(1)), "weights")
        # An entry that is not needed has no weight of 0.
        still, plant = one_fit(((1, 0, 2), (0, 1, 0))), plant_of(FRACTIONS, [[2]], [[0]])
        told = Lost((0,), (Blow((), plant, 0, "low"),), wholes(1))
        self.assertIs(lost_fault(still, UNIT, TIGHT, told), None)
        told = Lost((0,), (Blow((), plant, 0, "low"), Stop(0, "high")), wholes(1, 0))
        self.assertEqual(lost_fault(still, UNIT, TIGHT, told), "weights")
        # The other side, the other bound, the other corner.
        self.assertEqual(self.fault(blows=(Blow((), PLANT, 0, "high"), LOST.blows[1])), "weights")
        self.assertEqual(self.fault(blows=(LOST.blows[0], Stop(0, "low"))), "weights")
        self.assertEqual(self.fault((1,)), "weights")
        self.assertEqual(self.fault(bounds=Bounds([(-1, 2)], [(3, 4)])), "weights")

    def test_each_weight_altered(self):
        for fit, plant, box, bounds, told in kept_boxes():
            if isinstance(told, Lost):
                for at, weight in enumerate(told.weights):
                    altered = told.weights[:at] + (FRACTIONS.plus(weight, ONE),) + told.weights[at + 1:]
                    row, end = half_space(fit, box, bounds, told.corner, told.blows[at])
                    due = "weights" if any(row) or end else None
                    self.assertEqual(lost_fault(fit, box, bounds, Lost(told.corner, told.blows, altered)), due)

    def test_errors(self):
        check_errors(self, lost_fault, Lost(None, None, None))
        self.assertEqual(lost_fault(fit=KNOWN, box=UNIT, bounds=TIGHT, told=LOST), None)

    def test_a_push(self):
        # a is 3/2, b is 1 to within 1/10, and the reply is pushed by 1/10 at most.
        plant = some_plant(FIT, ())
        drift = -Fraction(*plant.a[0][0])
        slope = Fraction(*plant.b[0][0])
        bounds = Bounds([None], [ZERO])
        # - b u <= -a + 1 - 1/10 and u <= 0.
        end = drift + 1 - Fraction(1, 10)
        weights = packed_row(FRACTIONS, [-1 / end, -slope / end])
        told = Lost((0,), (Blow((), plant, 0, "low"), Stop(0, "high")), weights)
        self.assertIs(lost_fault(FIT, UNIT, bounds, told), None)
        self.assertEqual(lost_fault(Fit(RECORD, [(1, 9)]), UNIT, bounds, told), "weights")
        self.assertEqual(dot_of(opened(weights), [end, Fraction(0)]), -1)


class Times(Timed):
    def test_the_greatest_sizes(self):
        for size, inputs in ((3, 1), (2, 2), (1, 3)):
            fits = [drawn_fit(1, size, inputs, 6, 0, 6)[0], drawn_fit(1, size, inputs, 4, 2, 6)[0]]
            for fit in fits + [calm_fit(size, inputs, wrong)[0] for wrong in (0, 1, 2)]:
                box, bounds = Box([(-9, 1)] * size, [(9, 1)] * size), Bounds([None] * inputs, [None] * inputs)
                told = keep(fit, box, bounds)
                fault = keeper_fault if isinstance(told, Keeper) else lost_fault
                self.assertIs(self.timed(fault, fit, box, bounds, told), None)


if __name__ == "__main__":
    unittest.main()
