import unittest
from fractions import Fraction
from random import Random

from disturbed import RECORD, ROWS, agreeing_lots, drawn_fit, has_plant, own_agrees, own_end, own_lots, plant_row
from disturbed import some_fits
from kinds import check_all_unlike, check_equal, check_result
from polyhedra import dot_of
from sums import FRACTIONS, all_tuples, lists, opened, packed_row, plant_of, raised, wholes
from timing import Timed
from untaughthelm.errors import BadFit, BadLot, BadRow, MixedFields, NoFit, NoState
from untaughthelm.fields import Field
from untaughthelm.fits import End, Ends, Fit, Prior, find_ends, list_lots, lot_of, some_plant
from untaughthelm.plants import Plant
from untaughthelm.records import Record
from untaughthelm.rows import unit_row

ZERO = (0, 1)
ONE = (1, 1)
TENTH = (1, 10)

NO_FRACTIONS = (3, True, "1", (1, 0), (2, 4), (1, -1), [1, 1], (True, 1), (1,))

def rows_of(many, size=1, inputs=1):
    return Record(FRACTIONS, size, inputs, [(wholes(*range(k, k + size)), wholes(*range(inputs)), wholes(*[0] * size))
                                            for k in range(many)])


class Values(unittest.TestCase):
    def test_results(self):
        check_result(self, Prior, ("state", "parts", "low", "high"))
        check_result(self, End, ("value", "lot", "plant", "ray"))
        check_result(self, Ends, ("low", "high"))

    def test_attributes(self):
        prior = Prior(0, [ONE, ZERO], ZERO, None)
        fit = Fit(RECORD, [TENTH], [prior], 1)
        self.assertEqual((fit.record, fit.pushes, fit.wrong), (RECORD, (TENTH,), 1))
        self.assertIsInstance(fit.priors, tuple)
        self.assertEqual(fit.priors, (Prior(0, (ONE, ZERO), ZERO, None),))
        self.assertIsInstance(fit.priors[0].parts, tuple)
        self.assertEqual((prior.parts, prior.state), ([ONE, ZERO], 0))
        plain = Fit(record=RECORD, pushes=(TENTH,))
        self.assertEqual((plain.priors, plain.wrong), ((), 0))

    def test_what_is_passed_in_is_not_kept(self):
        pushes, parts = [TENTH], [ONE, ZERO]
        prior = Prior(0, parts, None, ONE)
        priors = [prior]
        fit = Fit(RECORD, pushes, priors)
        pushes[0], parts[0], prior.low = ZERO, ZERO, ZERO
        priors.append(None)
        self.assertEqual((fit.pushes, fit.priors), ((TENTH,), (Prior(0, (ONE, ZERO), None, ONE),)))

    def test_equality(self):
        prior = Prior(0, (ONE, ZERO), ZERO, None)
        things = [Fit(RECORD, [TENTH]), Fit(RECORD, [ZERO]), Fit(RECORD, [TENTH], [prior]), Fit(RECORD, [TENTH], (), 1),
                  Fit(RECORD, [TENTH], [prior, prior]), Fit(rows_of(2), [TENTH]), Fit(RECORD, [TENTH], (), 2),
                  Fit(RECORD, [TENTH], [Prior(0, (ONE, ZERO), None, None)])]
        check_all_unlike(self, things)
        check_equal(self, Fit(RECORD, (TENTH,), [Prior(0, [ONE, ZERO], ZERO, None)], 0), things[2])


class Errors(unittest.TestCase):
    def check(self, due, record=RECORD, pushes=(TENTH,), priors=(), wrong=0):
        self.assertEqual(raised(Fit, record, pushes, priors, wrong), None if due is None else (BadFit, (due,)))

    def test_mixed_fields(self):
        for prime in (2, 7):
            record = Record(Field(prime), 1, 1)
            self.assertEqual(raised(Fit, record, (ZERO,)), (MixedFields, ()))
            self.assertEqual(raised(Fit, record, None, None, None), (MixedFields, ()))

    def test_pushes(self):
        for pushes in (None, 3, "a", (), (TENTH, TENTH), {TENTH: 1}, ((-1, 10),), (None,), *[(n,) for n in NO_FRACTIONS]):
            self.check("pushes", pushes=pushes)
            self.check("pushes", pushes=pushes, priors=None, wrong=9, record=rows_of(7))
        two = Record(FRACTIONS, 2, 1)
        for pushes in ((ZERO, (-1, 1)), (ZERO,), (ZERO,) * 3):
            self.check("pushes", two, pushes)
        self.check(None, two, [ZERO, ONE])

    def test_priors(self):
        good = Prior(0, (ONE, ZERO), ZERO, ONE)
        two = Record(FRACTIONS, 2, 1)
        for priors in (None, 3, "", {good.state: 1}, [good] * 7, [None], [(0, (ONE, ZERO), ZERO, ONE)], [good, good.parts]):
            self.check("priors", priors=priors)
            self.check("priors", priors=priors, wrong=None)
        self.check(None, priors=[good] * 6)
        for state in (1, -1, None, True, False, "0", ZERO):
            self.check("priors", priors=[Prior(state, (ONE, ZERO), ZERO, ONE)])
        self.check(None, two, (ZERO, ZERO), [Prior(1, wholes(1, 2, 3), None, None)])
        self.check("priors", two, (ZERO, ZERO), [Prior(2, wholes(1, 2, 3), None, None)])
        for parts in (None, 3, "ab", (), (ONE,), (ONE,) * 3, {ONE: 1, ZERO: 2}, *[(ONE, n) for n in NO_FRACTIONS + (None,)]):
            self.check("priors", priors=[good, Prior(0, parts, ZERO, ONE)])
        for end in NO_FRACTIONS:
            self.check("priors", priors=[Prior(0, (ONE, ZERO), end, None)])
            self.check("priors", priors=[Prior(0, (ONE, ZERO), None, end)])
            self.check("priors", priors=[Prior(0, (ONE, ZERO), end, ONE)])
        for low, high in ((ONE, ZERO), ((1, 2), (1, 3)), (ZERO, (-1, 9))):
            self.check("priors", priors=[Prior(0, (ONE, ZERO), low, high)], wrong=5)
        for low, high in ((ONE, ONE), (None, ZERO), (ONE, None), (None, None), ((1, 3), (1, 2))):
            self.check(None, priors=[Prior(0, [ONE, ZERO], low, high)])

    def test_wrong(self):
        for wrong in (-1, 3, None, True, False, "1", ONE):
            self.check("wrong", wrong=wrong)
            self.check("wrong", rows_of(7), wrong=wrong)

    def test_many(self):
        for many, wrong, due in ((6, 0, None), (7, 0, "many"), (4, 1, None), (5, 1, "many"), (4, 2, None), (5, 2, "many"),
                                 (30, 0, "many")):
            self.check(due, rows_of(many), wrong=wrong)


class Lots(unittest.TestCase):
    def test_against_all_lots(self):
        many = set()
        for fit, plant in some_fits():
            if fit.record.size + fit.record.inputs <= 3 and len(fit.priors) < 4:
                due = tuple(lot for lot in own_lots(fit) if has_plant(fit, lot))
                self.assertEqual(list_lots(fit), due)
                many.add((fit.wrong, len(fit.record), len(due) < len(own_lots(fit))))
        self.assertTrue({(0, 0, False), (0, 6, False), (1, 3, True), (2, 4, True), (2, 1, False)} <= many, many)

    def test_one_state_and_one_input(self):
        source = Random(3)
        empty = 0
        for turn in range(150):
            wrong, rows = source.choice(((0, 3), (1, 3), (1, 4), (2, 4), (2, 2), (1, 0), (2, 1)))
            told = [tuple(packed_row(FRACTIONS, [source.randint(-2, 2)]) for _ in range(3)) for _ in range(rows)]
            priors = [Prior(0, packed_row(FRACTIONS, [source.randint(-1, 1), 1]), wholes(-1)[0], ZERO)] * (turn % 2)
            fit = Fit(Record(FRACTIONS, 1, 1, told), [(source.randint(0, 2), 1)], priors, wrong)
            due = tuple(lot for lot in own_lots(fit) if has_plant(fit, lot))
            self.assertEqual(list_lots(fit), due)
            empty += due == ()
            for lot in own_lots(fit):
                if lot in due:
                    self.assertTrue(own_agrees(fit, lot, some_plant(fit, lot)))
                else:
                    self.assertEqual(raised(some_plant, fit, lot), (BadLot, (lot,)))
        self.assertGreater(empty, 5)

    def test_none_agrees(self):
        for wrong in (0, 1, 2):
            rows = [(wholes(0), wholes(0), wholes(k)) for k in range(1, wrong + 2)]
            fit = Fit(Record(FRACTIONS, 1, 1, rows), [ZERO], (), wrong)
            self.assertEqual(list_lots(fit), ())
            self.assertEqual(raised(some_plant, fit, tuple(range(wrong))), (BadLot, (tuple(range(wrong)),)))
            self.assertIs(lot_of(fit, plant_of(FRACTIONS, [[1]], [[1]])), None)
        # Priors alone can contradict each other.
        priors = [Prior(0, (ONE, ZERO), ONE, None), Prior(0, (ONE, ZERO), None, ZERO)]
        self.assertEqual(list_lots(Fit(Record(FRACTIONS, 1, 1), [ONE], priors, 2)), ())
        self.assertEqual(list_lots(Fit(Record(FRACTIONS, 1, 1), [ONE], [Prior(0, (ZERO, ZERO), ONE, None)])), ())

    def test_no_rows(self):
        for wrong in (0, 1, 2):
            self.assertEqual(list_lots(Fit(Record(FRACTIONS, 2, 2), (ZERO, ZERO), (), wrong)), ((),))
        self.assertEqual(list_lots(Fit(rows_of(1), [ZERO], (), 2)), ((0,),))
        self.assertEqual(list_lots(Fit(rows_of(2), [ZERO], (), 2)), ((0, 1),))

    def test_lot_of(self):
        told = set()
        for fit, plant in some_fits():
            self.assertEqual(lot_of(fit, plant), agreeing_lots(fit, plant)[0])
            for other in (plant_of(FRACTIONS, [[1] * fit.record.size] * fit.record.size,
                                   [[2] * fit.record.inputs] * fit.record.size), some_plant(fit, list_lots(fit)[-1])):
                due = agreeing_lots(fit, other)
                self.assertEqual(lot_of(fit, other), due[0] if due else None)
                told.add(lot_of(fit, other))
        self.assertTrue({None, (), (0,), (0, 1)} <= told, told)
        self.assertGreater(len(told), 5)

    def test_a_push_at_its_bound(self):
        fit = Fit(RECORD, [TENTH])
        for top, due in ((16, ()), (14, ()), (17, None), (13, None)):
            self.assertEqual(lot_of(fit, Plant(FRACTIONS, [[FRACTIONS.number(top, 10)]], [[ONE]])), due)

    def test_lot_of_another_field(self):
        self.assertEqual(raised(lot_of, Fit(RECORD, [TENTH]), plant_of(Field(7), [[1]], [[1]])), (MixedFields, ()))

    def test_some_plant(self):
        for fit, plant in some_fits():
            for lot in list_lots(fit):
                for given in (lot, list(lot)):
                    told = some_plant(fit, given)
                    self.assertIsInstance(told, Plant)
                    self.assertEqual((told.size, told.inputs), (fit.record.size, fit.record.inputs))
                    self.assertTrue(own_agrees(fit, lot, told))

    def test_bad_lots(self):
        fit = Fit(Record(FRACTIONS, 1, 1, ROWS + ROWS[:1]), [TENTH], (), 1)
        self.assertEqual(list_lots(fit), ((0,), (1,), (2,)))
        for lot in ((), (3,), (-1,), (0, 1), (True,), (False,), None, 0, "0", {0: 1}, ("0",), ([0],), ((0,),), (ZERO,), [1, 1]):
            self.assertEqual(raised(some_plant, fit, lot), (BadLot, (lot,)))
        plain = Fit(RECORD, [TENTH])
        for lot in ((0,), None, "", {}):
            self.assertEqual(raised(some_plant, plain, lot), (BadLot, (lot,)))
        self.assertTrue(own_agrees(plain, (), some_plant(plain, [])))


class Ending(unittest.TestCase):
    def check_ends(self, fit, state, x, u):
        """Each promise of 14.2 on both ends, other than that no plant goes further."""
        told = find_ends(fit, state, x, u)
        self.assertIsInstance(told, Ends)
        z = opened(tuple(x) + tuple(u))
        for end, sign in ((told.low, -1), (told.high, 1)):
            self.assertIsInstance(end, End)
            self.assertTrue(all_tuples(end.lot))
            self.assertIn(end.lot, own_lots(fit))
            self.assertTrue(own_agrees(fit, end.lot, end.plant))
            if end.value is not None:
                self.assertIs(end.ray, None)
                self.assertEqual(dot_of(opened(plant_row(end.plant, state)), z), Fraction(*end.value))
                continue
            self.assertTrue(all_tuples(end.ray))
            self.assertEqual(len(end.ray), len(z))
            self.assertEqual(dot_of(opened(end.ray), z), sign)
            for far in (1, 7, 10 ** 6):
                self.assertTrue(own_agrees(fit, end.lot, along(end.plant, state, end.ray, far)))
        return told

    def test_one_state_and_one_input(self):
        ever = set()
        for seed in range(60):
            wrong = seed % 3
            fit, plant = drawn_fit(seed, 1, 1, (6, 4, 4, 2, 1, 0, 3)[seed % 7] if wrong == 0 else seed % 5, wrong, seed % 4)
            source = Random(seed)
            for x, u in ((wholes(0), wholes(0)), (wholes(1), wholes(0)), (wholes(0), wholes(-2)),
                         (wholes(source.randint(-5, 5)), ((source.randint(-5, 5), 1),))):
                told = self.check_ends(fit, 0, list(x), u)
                z = x + u
                low, high = own_end(fit, 0, z), own_end(fit, 0, packed_row(FRACTIONS, [-n for n in opened(z)]))
                self.assertEqual("ever" if told.low.value is None else Fraction(*told.low.value), low)
                self.assertEqual("ever" if told.high.value is None else -Fraction(*told.high.value), high)
                ever.add((low == "ever", high == "ever"))
        self.assertEqual(ever, {(False, False), (True, True), (True, False), (False, True)})

    def test_all_shapes(self):
        for fit, plant in some_fits():
            source = Random(1)
            for state in range(fit.record.size):
                x = packed_row(FRACTIONS, [source.randint(-3, 3) for _ in range(fit.record.size)])
                u = packed_row(FRACTIONS, [Fraction(source.randint(-3, 3), 2) for _ in range(fit.record.inputs)])
                told = self.check_ends(fit, state, x, u)
                value = dot_of(opened(plant_row(plant, state)), opened(x + u))
                self.assertTrue(told.low.value is None or Fraction(*told.low.value) <= value)
                self.assertTrue(told.high.value is None or Fraction(*told.high.value) >= value)

    def test_two_states_and_inputs_by_basic_points(self):
        for seed in range(12):
            fit, plant = drawn_fit(seed, 2 - seed % 2, 1 + seed % 2, 4, seed % 3)
            z = packed_row(FRACTIONS, [1, -2, 3])
            size = fit.record.size
            for state in range(size):
                told = self.check_ends(fit, state, z[:size], z[size:])
                low = own_end(fit, state, z)
                self.assertEqual("ever" if told.low.value is None else Fraction(*told.low.value), low)

    def test_by_hand(self):
        fit = Fit(RECORD, [TENTH])
        told = find_ends(fit, 0, [ONE], [ZERO])
        self.assertEqual((told.low.value, told.high.value), ((7, 5), (8, 5)))
        told = find_ends(fit, state=0, x=(ZERO,), u=(ONE,))
        self.assertEqual((told.low.value, told.high.value, told.low.lot), ((9, 10), (11, 10), ()))
        told = find_ends(fit, 0, [(10, 1)], [(-10, 1)])
        self.assertEqual((told.low.value, told.high.value), ((3, 1), (7, 1)))

    def test_several_lots(self):
        # Each of three rows may be the wrong one: the replies 0, 1 and 5 agree by twos.
        rows = [(wholes(1), wholes(0), wholes(y)) for y in (0, 1, 5)]
        fit = Fit(Record(FRACTIONS, 1, 1, rows), [(2, 1)], (), 1)
        self.assertEqual(list_lots(fit), ((0,), (2,)))
        told = find_ends(fit, 0, [ONE], [ZERO])
        self.assertEqual((told.low.value, told.low.lot, told.high.value, told.high.lot), ((-1, 1), (2,), (3, 1), (0,)))

    def test_errors(self):
        fit, none = Fit(RECORD, [TENTH]), Fit(Record(FRACTIONS, 1, 1, [(wholes(0), wholes(0), wholes(3))]), [TENTH])
        for told in (fit, none):
            for state in (1, -1, None, True, False, "0", ZERO):
                self.assertEqual(raised(find_ends, told, state, None, None), (NoState, (state,)))
            for row in (None, 3, "a", (), (ONE, ONE), (None,), {ONE: 1}, *[(n,) for n in NO_FRACTIONS]):
                self.assertEqual(raised(find_ends, told, 0, row, None), (BadRow, ("x",)))
                self.assertEqual(raised(find_ends, told, 0, [ONE], row), (BadRow, ("u",)))
        self.assertEqual(raised(find_ends, none, 0, [ONE], [ONE]), (NoFit, ()))

    def test_nothing_is_changed(self):
        x, u = lists(wholes(1)), lists(wholes(2))
        fit = Fit(RECORD, [TENTH], [Prior(0, [ONE, ZERO], ZERO, None)], 1)
        other = Fit(RECORD, [TENTH], [Prior(0, [ONE, ZERO], ZERO, None)], 1)
        find_ends(fit, 0, x, u)
        some_plant(fit, [1])
        self.assertEqual((x, u), (lists(wholes(1)), lists(wholes(2))))
        self.assertEqual(fit, other)


def along(plant, state, ray, far):
    """The plant with so many times the ray added to the plant row of the state."""
    table = [list(opened(plant_row(plant, place))) for place in range(plant.size)]
    table[state] = [number + far * part for number, part in zip(table[state], opened(ray))]
    return Plant(FRACTIONS, [packed_row(FRACTIONS, row[:plant.size]) for row in table],
                 [packed_row(FRACTIONS, row[plant.size:]) for row in table])


class Times(Timed):
    def test_the_greatest_sizes(self):
        for size, inputs in ((3, 1), (2, 2), (1, 3), (4, 3)):
            for many, wrong, priors in ((6, 0, 6), (4, 2, 6), (4, 2, 0), (6, 0, 0)):
                fit, plant = drawn_fit(many, size, inputs, many, wrong, priors)
                lots = self.timed(list_lots, fit)
                self.timed(lot_of, fit, plant)
                self.timed(some_plant, fit, lots[-1])
                self.timed(find_ends, fit, 0, unit_row(size, 0), unit_row(inputs, 0))


if __name__ == "__main__":
    unittest.main()
