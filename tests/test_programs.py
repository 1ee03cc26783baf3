import unittest
from fractions import Fraction
from random import Random

from kinds import check_result
from polyhedra import dot_of, drawn_program, keeps_all, many_above, none_below, own_least, program, sums_of
from sums import FRACTIONS, all_tuples, lists, opened, raised, wholes
from timing import Timed, long_whole, small_fraction
from untaughthelm.errors import BadProgram
from untaughthelm.programs import Infeasible, Optimum, Unbounded, minimize, minimum_fault

ZERO = (0, 1)

NO_FRACTIONS = (3, None, True, "1", (1, 0), (2, 4), (1, -1), [1, 1], (True, 1), (1, True), (1,), (1, 1, 1), 1.5)


def check_certificate(case, costs, constraints, told):
    """Every sum that 13.3 promises, and how many weights are above 0."""
    width = len(costs)
    if isinstance(told, Infeasible):
        case.assertTrue(all_tuples(told.weights))
        case.assertEqual(len(told.weights), len(constraints))
        case.assertTrue(none_below(told.weights))
        case.assertEqual(sums_of(told.weights, constraints, width), ([0] * width, -1))
        case.assertLessEqual(many_above(told.weights), width + 1)
        return
    case.assertTrue(all_tuples(told.point))
    case.assertTrue(FRACTIONS.holds_row(told.point, width))
    case.assertTrue(keeps_all(told.point, constraints))
    if isinstance(told, Optimum):
        case.assertTrue(all_tuples(told.weights))
        case.assertEqual(len(told.weights), len(constraints))
        case.assertTrue(none_below(told.weights))
        case.assertEqual(sums_of(told.weights, constraints, width),
                         ([-number for number in opened(costs)], -dot_of(opened(costs), opened(told.point))))
        case.assertLessEqual(many_above(told.weights), width)
    else:
        case.assertIsInstance(told, Unbounded)
        case.assertTrue(all_tuples(told.ray))
        case.assertTrue(FRACTIONS.holds_row(told.ray, width))
        case.assertTrue(keeps_all(told.ray, [(parts, ZERO) for parts, _ in constraints]))
        case.assertEqual(dot_of(opened(costs), opened(told.ray)), -1)


# x1 to x4 are 0 or more; with the usual rule the simplex method returns to where it began.
CIRCLING = program([Fraction(-3, 4), 150, Fraction(-1, 50), 6],
                   [([Fraction(1, 4), -60, Fraction(-1, 25), 9], 0), ([Fraction(1, 2), -90, Fraction(-1, 50), 3], 0),
                    ([0, 0, 1, 0], 1), ([-1, 0, 0, 0], 0), ([0, -1, 0, 0], 0), ([0, 0, -1, 0], 0), ([0, 0, 0, -1], 0)])


class Results(unittest.TestCase):
    def test_results(self):
        check_result(self, Optimum, ("point", "weights"))
        check_result(self, Infeasible, ("weights",))
        check_result(self, Unbounded, ("point", "ray"))

    def test_results_of_unlike_classes(self):
        self.assertTrue(Optimum((), ()) != Unbounded((), ()))
        self.assertTrue(Infeasible(()) != Optimum((), ()))
        self.assertFalse(Unbounded((), ()) == Optimum((), ()))


class Minimizing(unittest.TestCase):
    def right(self, costs, constraints):
        told = minimize(costs, constraints)
        check_certificate(self, costs, constraints, told)
        self.assertIs(minimum_fault(costs, constraints, told), None)
        return told

    def test_the_example(self):
        costs, constraints = program([1], [([-1], -2), ([1], 5)])
        self.assertEqual(minimize(costs, constraints), Optimum(wholes(2), wholes(1, 0)))
        costs, constraints = program([1], [([-1], -2), ([1], 1)])
        self.assertEqual(minimize(costs, constraints), Infeasible(wholes(1, 1)))
        told = self.right(*program([1], [([1], 5)]))
        self.assertIsInstance(told, Unbounded)
        self.assertEqual(told.ray, wholes(-1))

    def test_one_unknown(self):
        kinds = set()
        for seed in range(400):
            costs, constraints = drawn_program(seed, 1, seed % 6)
            lows = [Fraction(*end) / Fraction(*parts[0]) for parts, end in constraints if parts[0][0] < 0]
            highs = [Fraction(*end) / Fraction(*parts[0]) for parts, end in constraints if parts[0][0] > 0]
            never = any(parts == (ZERO,) and end[0] < 0 for parts, end in constraints)
            told = self.right(costs, constraints)
            kinds.add(type(told))
            if never or (lows and highs and max(lows) > min(highs)):
                self.assertIsInstance(told, Infeasible)
            elif (costs[0][0] > 0 and not lows) or (costs[0][0] < 0 and not highs):
                self.assertIsInstance(told, Unbounded)
            else:
                self.assertIsInstance(told, Optimum)
                if costs[0][0]:
                    best = max(lows) if costs[0][0] > 0 else min(highs)
                    self.assertEqual(opened(told.point), [best])
        self.assertEqual(kinds, {Optimum, Infeasible, Unbounded})

    def test_all_basic_points(self):
        kinds = {}
        for width, times, most in ((2, 160, 7), (3, 60, 5)):
            for seed in range(times):
                costs, constraints = drawn_program(seed, width, seed % (most + 1))
                told = self.right(costs, constraints)
                word, value = own_least(costs, constraints)
                self.assertEqual(type(told), {"none": Infeasible, "ever": Unbounded, "least": Optimum}[word])
                kinds[word] = kinds.get(word, 0) + 1
                if word == "least":
                    self.assertEqual(dot_of(opened(costs), opened(told.point)), value)
        self.assertTrue(all(kinds[word] > 15 for word in ("none", "ever", "least")), kinds)

    def test_many_unknowns(self):
        kinds = set()
        for width in range(1, 13):
            for many in (0, 1, 5, 10, 60):
                if width * many <= 120:
                    for seed in range(6):
                        kinds.add(type(self.right(*drawn_program(seed + 100 * width, width, many))))
        self.assertEqual(kinds, {Optimum, Infeasible, Unbounded})

    def test_no_constraints(self):
        for width in (1, 2, 12):
            self.assertEqual(type(self.right(*program([0] * width, []))), Optimum)
            self.assertEqual(type(self.right(*program([0] * (width - 1) + [3], []))), Unbounded)
            self.assertEqual(minimize(wholes(*[0] * width), ()).weights, ())

    def test_parts_of_zeros(self):
        for costs in ([0, 0], [1, -2]):
            best = Optimum if costs == [0, 0] else Unbounded
            for end, kind in ((1, best), (0, best), (-1, Infeasible), (Fraction(-1, 7), Infeasible)):
                self.assertEqual(type(self.right(*program(costs, [([0, 0], end)]))), kind)
                self.assertEqual(type(self.right(*program(costs, [([1, 0], 3), ([0, 0], end), ([0, 1], 2)]))), kind)

    def test_costs_of_zeros(self):
        told = self.right(*program([0, 0], [([1, 1], 2), ([-1, 0], -1), ([0, -1], -1)]))
        self.assertEqual(told.point, wholes(1, 1))
        self.assertIsInstance(self.right(*program([0, 0], [([1, 1], 2), ([-1, 0], -1), ([0, -1], -2)])), Infeasible)

    def test_equal_constraints(self):
        one = ([-1, -2], -4)
        told = self.right(*program([2, 4], [one] * 60))
        self.assertEqual(dot_of(opened(told.point), [1, 2]), 4)
        self.assertIsInstance(self.right(*program([1, 1], [one] * 60)), Unbounded)
        self.assertIsInstance(self.right(*program([1, 1], [one] * 30 + [([1, 2], 3)] * 30)), Infeasible)

    def test_a_point_of_many_constraints(self):
        # All pass through (1, 1): each basis of two is the same point.
        fan = [([-a, -b], -a - b) for a in range(1, 7) for b in range(1, 7)]
        told = self.right(*program([3, 4], fan + [([1, 0], 1), ([0, 1], 1)]))
        self.assertEqual(told.point, wholes(1, 1))

    def test_a_program_that_circles(self):
        told = self.right(*CIRCLING)
        self.assertEqual(dot_of(opened(CIRCLING[0]), opened(told.point)), Fraction(-1, 20))
        # And the one whose weights are its points.
        costs = [-Fraction(*end) for _, end in CIRCLING[1]]
        parts = [[-Fraction(*row[place]) for row, _ in CIRCLING[1]] for place in range(4)]
        ends = [Fraction(*number) for number in CIRCLING[0]]
        rows = [(row, end) for row, end in zip(parts, ends)] + [([-n for n in row], -end) for row, end in zip(parts, ends)]
        rows += [([-int(j == k) for j in range(7)], 0) for k in range(7)]
        told = self.right(*program([-number for number in costs], rows))
        self.assertEqual(sum(-c * Fraction(*x) for c, x in zip(costs, told.point)), Fraction(1, 20))

    def test_a_skewed_cube(self):
        width = 6
        rows = []
        for k in range(width):
            rows.append(([2 * 2 ** (k - j) if j < k else int(j == k) for j in range(width)], 5 ** (k + 1)))
            rows.append(([-int(j == k) for j in range(width)], 0))
        told = self.right(*program([-2 ** (width - 1 - k) for k in range(width)], rows))
        self.assertEqual(dot_of(opened(told.point), [2 ** (width - 1 - k) for k in range(width)]), 5 ** width)

    def test_lists_and_tuples(self):
        costs, constraints = program([1, 2], [([-1, 0], -2), ([0, -1], Fraction(-1, 2))])
        due = minimize(costs, constraints)
        kept = lists(costs), [[lists(parts), end] for parts, end in constraints]
        given = lists(costs), [[lists(parts), end] for parts, end in constraints]
        self.assertEqual(minimize(*given), due)
        self.assertEqual(given, kept)
        self.assertEqual(minimize(costs=costs, constraints=tuple(constraints)), due)
        given[0][0] = given[1][0][0][0] = (9, 1)
        self.assertEqual(due, Optimum(((2, 1), (1, 2)), wholes(1, 2)))


class Errors(unittest.TestCase):
    def check(self, due, costs, constraints):
        for call in (minimize, lambda *things: minimum_fault(*things, Infeasible(()))):
            told = raised(call, costs, constraints)
            if due is None:
                self.assertIs(told, None)
            else:
                self.assertEqual(told, (BadProgram, (due[1], due[0])))

    def test_costs(self):
        for costs in ((), [], None, 3, "ab", {ZERO: 1}, wholes(*range(13))):
            for constraints in ([], None, [None]):
                self.check(("costs", None), costs, constraints)
        for number in NO_FRACTIONS:
            self.check(("costs", None), [ZERO, number], [])
            self.check(("costs", None), (number,), None)
        self.check(None, wholes(*range(12)), [])
        self.check(None, wholes(0), ())

    def test_many(self):
        good = (wholes(1, 1), ZERO)
        for constraints in (None, 3, "", {1: 2}, [good] * 61, [None] * 61):
            self.check(("many", None), wholes(0, 0), constraints)
        self.check(None, wholes(0, 0), [good] * 60)

    def test_constraints(self):
        good = (wholes(1, 1), (1, 2))
        for at in (0, 1, 3):
            def put(bad, behind=good):
                return [good] * at + [bad, behind]

            for bad in (None, 3, "ab", {0: 1, 1: 2}, (), good[:1], good + good[:1], [good[0], ZERO, None]):
                self.check(("pair", at), wholes(0, 0), put(bad))
                self.check(("pair", at), wholes(0, 0), put(bad, (None, None)))
            for parts in (None, 3, "ab", wholes(1), wholes(1, 1, 1), (), {ZERO: 1, (1, 1): 2}):
                self.check(("parts", at), wholes(0, 0), put((parts, ZERO)))
                self.check(("parts", at), wholes(0, 0), put([parts, None], None))
            for number in NO_FRACTIONS:
                self.check(("parts", at), wholes(0, 0), put(([ZERO, number], ZERO)))
                self.check(("end", at), wholes(0, 0), put((wholes(1, 1), number)))
                self.check(("end", at), wholes(0, 0), put([lists(wholes(1, 1)), number], (None, ZERO)))


class Faults(unittest.TestCase):
    def test_none_for_what_is_right(self):
        for seed in range(80):
            costs, constraints = drawn_program(seed, 1 + seed % 4, seed % 7)
            told = minimize(costs, constraints)
            self.assertIs(minimum_fault(costs, constraints, told), None)
            for names in (("point", "weights"), ("point", "ray"), ("weights",)):
                if set(names) == set(vars(told)):
                    listed = type(told)(*[lists(getattr(told, name)) for name in names])
                    self.assertIs(minimum_fault(lists(costs), tuple(constraints), listed), None)

    def altered(self, row):
        """Rows that are unlike, with one number changed, one too few or too many, or no rows."""
        for place in range(len(row)):
            yield row[:place] + ((row[place][0] + row[place][1], row[place][1]),) + row[place + 1:]
            yield row[:place] + ((row[place][0] - row[place][1], row[place][1]),) + row[place + 1:]
            yield row[:place] + (row[place][0],) + row[place + 1:]
        yield row[:-1]
        yield row + (ZERO,)
        yield from (None, 3, "ab", {})

    def test_optimum(self):
        costs, constraints = program([1, 2], [([-1, 0], -2), ([0, -1], -3), ([1, 1], 9), ([1, 0], 2)])
        told = minimize(costs, constraints)
        self.assertEqual(told.point, wholes(2, 3))

        def fault(point, weights):
            return minimum_fault(costs, constraints, Optimum(point, weights))

        self.assertIs(fault([(2, 1), (3, 1)], wholes(1, 2, 0, 0)), None)
        # Another proof of the same point.
        self.assertIs(fault(wholes(2, 3), wholes(2, 2, 0, 1)), None)
        for weights in self.altered(wholes(1, 2, 0, 0)):
            self.assertEqual(fault(wholes(2, 3), weights), "weights")
        self.assertEqual(fault(wholes(2, 3), wholes(0, 2, 0, -1)), "weights")
        # The ends add up as they should, the parts do not; then the other way round.
        self.assertEqual(fault(wholes(2, 3), wholes(4, 0, 0, 0)), "weights")
        self.assertEqual(fault(wholes(2, 4), wholes(1, 2, 0, 0)), "weights")
        for point in (wholes(1, 3), wholes(2, 2), wholes(2, 8), wholes(3, 3), wholes(2), wholes(2, 3, 0), None, (2, 3),
                      ((2, 1), (6, 2)), {(2, 1): 1, (3, 1): 2}):
            self.assertEqual(fault(point, wholes(1, 2, 0, 0)), "point")
            self.assertEqual(fault(point, None), "point")
        # It keeps all constraints, but it is not the least one.
        self.assertEqual(fault(wholes(2, 4), wholes(1, 2, 0, 0)), "weights")

    def test_infeasible(self):
        costs, constraints = program([5], [([-1], -2), ([1], 1), ([0], 3)])

        def fault(weights):
            return minimum_fault(costs, constraints, Infeasible(weights))

        self.assertIs(fault([(1, 1), (1, 1), ZERO]), None)
        for weights in self.altered(wholes(1, 1, 0)):
            self.assertEqual(fault(weights), "weights")
        self.assertEqual(fault(wholes(2, 2, 0)), "weights")
        self.assertEqual(fault(((1, 2), (1, 2), ZERO)), "weights")
        # The ends add up to -1, the parts do not add up to 0.
        self.assertEqual(fault(((1, 2), ZERO, ZERO)), "weights")
        self.assertEqual(fault(wholes(4, 4, 1)), None)
        self.assertEqual(fault(((-1, 1), (-1, 1), (-2, 3))), "weights")

    def test_unbounded(self):
        costs, constraints = program([1, -1], [([1, 0], 5), ([0, -1], 0)])

        def fault(point, ray):
            return minimum_fault(costs, constraints, Unbounded(point, ray))

        self.assertIs(fault(wholes(5, 0), [(-1, 1), ZERO]), None)
        self.assertIs(fault(wholes(0, 0), ((-1, 2), (1, 2))), None)
        self.assertIs(fault(wholes(0, 7), wholes(0, 1)), None)
        for point in (wholes(6, 0), wholes(0, -1), wholes(0), wholes(0, 0, 0), None, "ab"):
            self.assertEqual(fault(point, wholes(-1, 0)), "point")
            self.assertEqual(fault(point, None), "point")
        for ray in (wholes(-2, 0), wholes(1, 2), wholes(-2, -1), wholes(1, 0), wholes(0, 0), wholes(-1),
                    wholes(-1, 0, 0), None, (-1, 0), ((-2, 2), ZERO)):
            self.assertEqual(fault(wholes(5, 0), ray), "ray")

    def test_kind(self):
        costs, constraints = program([1], [([-1], -2)])
        told = minimize(costs, constraints)
        for other in (None, 3, "point", (told.point, told.weights), [told], {}, Optimum):
            self.assertEqual(minimum_fault(costs, constraints, other), "kind")

    def test_other_results_of_the_same_program(self):
        costs, constraints = program([1], [([-1], -2)])
        self.assertEqual(minimum_fault(costs, constraints, Infeasible(wholes(1))), "weights")
        self.assertEqual(minimum_fault(costs, constraints, Unbounded(wholes(2), wholes(-1))), "ray")
        costs, constraints = program([-1], [([-1], -2)])
        self.assertEqual(minimum_fault(costs, constraints, Optimum(wholes(2), wholes(1))), "weights")

    def test_the_errors_come_first(self):
        for told in (None, Infeasible(None), Optimum(wholes(0), ())):
            self.assertEqual(raised(minimum_fault, (), [], told), (BadProgram, (None, "costs")))
            self.assertEqual(raised(minimum_fault, wholes(0), [None], told), (BadProgram, (0, "pair")))


class Times(Timed):
    def test_the_greatest_sizes(self):
        for number in (small_fraction, long_whole, lambda source: FRACTIONS.number(long_whole(source)[0],
                                                                                  abs(long_whole(source)[0]) + 1)):
            source = Random(5)
            for width, many in ((12, 10), (2, 60), (1, 60), (10, 12), (6, 20), (4, 30)):
                for turn in range(6):
                    rows = [([number(source) for _ in range(width)], number(source)) for _ in range(many)]
                    if turn % 2:
                        rows = [(parts, (abs(end[0]), end[1])) for parts, end in rows]
                    costs = [number(source) for _ in range(width)]
                    told = self.timed(minimize, costs, rows)
                    self.assertIs(self.timed(minimum_fault, costs, rows, told), None)

    def test_beyond_them_nothing_is_raised(self):
        for seed in range(3):
            costs, constraints = drawn_program(seed, 12, 60)
            self.assertIs(minimum_fault(costs, constraints, minimize(costs, constraints)), None)


if __name__ == "__main__":
    unittest.main()
