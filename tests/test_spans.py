import unittest
from fractions import Fraction
from itertools import product
from random import Random

from sums import FIELDS, FRACTIONS, all_rows, all_sums, lists, opened, packed, packed_row, packed_table, product_of, raised
from sums import times_column, value_table, wholes
from untaughthelm.errors import BadRow, BadTable
from untaughthelm.fields import Field
from untaughthelm.rows import dot, row_table, table_row, table_table, unit_row, unit_table, zero_row
from untaughthelm.spans import Span, echelon_rows, inverse, silent_space, solve


def rank_of(rows):
    """The rank of rows of fractions, by an elimination of the test's own."""
    rows = [list(row) for row in rows]
    rank = 0
    for place in range(len(rows[0]) if rows else 0):
        found = [k for k in range(rank, len(rows)) if rows[k][place]]
        if found:
            rows[rank], rows[found[0]] = rows[found[0]], rows[rank]
            for k in range(rank + 1, len(rows)):
                factor = rows[k][place] / rows[rank][place]
                rows[k] = [a - factor * b for a, b in zip(rows[k], rows[rank])]
            rank += 1
    return rank


def some_rows(prime, width, many, seed):
    source = Random(seed)
    return [tuple((source.randrange(prime), 1) for _ in range(width)) for _ in range(many)]


class Making(unittest.TestCase):
    def test_by_hand(self):
        rows = [[(0, 1), (0, 1)], [(2, 1), (4, 1)], [(1, 1), (2, 1)], [(0, 1), (3, 1)], [(5, 1), (5, 1)]]
        span = Span(FRACTIONS, 2, rows)
        self.assertEqual(span.field, FRACTIONS)
        self.assertEqual(span.width, 2)
        self.assertEqual(span.rows, (wholes(0, 0), wholes(2, 4), wholes(1, 2), wholes(0, 3), wholes(5, 5)))
        self.assertEqual(span.rank, 2)
        self.assertEqual(span.kept, (1, 3))
        self.assertEqual(span.weights(wholes(1, 2)), ((0, 1), (1, 2), (0, 1), (0, 1), (0, 1)))
        self.assertEqual(span.weights([(1, 1), (1, 1)]), ((0, 1), (1, 2), (0, 1), (-1, 3), (0, 1)))
        self.assertEqual(span.echelon(), (wholes(1, 0), wholes(0, 1)))
        self.assertEqual(span.silent_rows(), ())

    def test_rest_of_a_fraction(self):
        span = Span(Field(7), 3, [[(2, 1), (1, 1), (0, 1)], [(4, 1), (2, 1), (0, 1)], [(0, 1), (0, 1), (3, 1)]])
        self.assertEqual((span.rank, span.kept), (2, (0, 2)))
        self.assertEqual(span.echelon(), (wholes(1, 4, 0), wholes(0, 0, 1)))
        self.assertEqual(span.silent_rows(), (wholes(3, 1, 0),))
        self.assertEqual(span.weights(wholes(6, 3, 1)), wholes(3, 0, 5))
        self.assertIs(span.weights(wholes(1, 0, 0)), None)

    def test_no_rows(self):
        for field in FIELDS:
            for rows in ((), []):
                span = Span(field, 3, rows)
                self.assertEqual((span.rows, span.rank, span.kept), ((), 0, ()))
                self.assertEqual(span.echelon(), ())
                self.assertEqual(span.silent_rows(), unit_table(3))
                self.assertEqual(span.weights(zero_row(3)), ())
                self.assertIs(span.is_new(zero_row(3)), False)
                self.assertIs(span.weights(unit_row(3, 1)), None)
                self.assertIs(span.is_new(unit_row(3, 1)), True)
            self.assertEqual(Span(field, 3), Span(field, 3, []))

    def test_zeros_alone(self):
        for field in FIELDS:
            span = Span(field, 2, [zero_row(2), zero_row(2)])
            self.assertEqual((len(span.rows), span.rank, span.kept), (2, 0, ()))
            self.assertEqual(span.echelon(), ())
            self.assertEqual(span.silent_rows(), unit_table(2))
            self.assertEqual(span.weights(zero_row(2)), zero_row(2))

    def test_widths(self):
        for field in FIELDS:
            self.assertEqual(Span(field, 1, [wholes(1)]).echelon(), (wholes(1),))
            span = Span(field, 60, unit_table(60))
            self.assertEqual((span.rank, span.kept), (60, tuple(range(60))))
            self.assertEqual(span.weights(unit_row(60, 59)), unit_row(60, 59))
        for width in (0, 61, -1, True, False, None, "3", 3.0, (3,)):
            self.assertEqual(raised(Span, FRACTIONS, width), (BadTable, ("width",)))
            self.assertEqual(raised(Span, FRACTIONS, width, None), (BadTable, ("width",)))
            self.assertEqual(raised(Span, FRACTIONS, width, [None]), (BadTable, ("width",)))

    def test_wrong_rows(self):
        for thing in (None, 3, "ab", {0: wholes(1, 1)}, {wholes(1, 1)}, iter([wholes(1, 1)])):
            self.assertEqual(raised(Span, FRACTIONS, 2, thing), (BadTable, ("rows",)))
        for row in (None, wholes(1), wholes(1, 1, 1), (1, 1), "ab", [(1, 1), (2, 4)], [(1, 1), [1, 1]], ((1, 1), None)):
            self.assertEqual(raised(Span, FRACTIONS, 2, [row]), (BadRow, ("row",)))
            self.assertEqual(raised(Span, FRACTIONS, 2, (wholes(1, 1), row)), (BadRow, ("row",)))
        self.assertEqual(raised(Span, Field(7), 2, [[(7, 1), (1, 1)]]), (BadRow, ("row",)))
        self.assertEqual(raised(Span, Field(7), 2, [[(1, 2), (1, 1)]]), (BadRow, ("row",)))
        self.assertEqual(Span(FRACTIONS, 2, [[(7, 1), (1, 2)]]).rank, 1)

    def test_more_rows_than_their_width(self):
        span = Span(FRACTIONS, 2, [wholes(k, 1) for k in range(70)])
        self.assertEqual((len(span.rows), span.kept), (70, (0, 1)))

    def test_lists_that_change_later(self):
        rows = [[(1, 1), (0, 1)]]
        span = Span(FRACTIONS, 2, rows)
        rows[0][0] = (0, 1)
        rows.append([(0, 1), (1, 1)])
        self.assertEqual(span.rows, (wholes(1, 0),))
        row = [(0, 1), (1, 1)]
        longer = span.with_row(row)
        row[1] = (5, 1)
        self.assertEqual(longer.rows, (wholes(1, 0), wholes(0, 1)))
        self.assertEqual(rows, [[(0, 1), (0, 1)], [(0, 1), (1, 1)]])

    def test_equal_and_unlike(self):
        rows = [wholes(1, 0), wholes(0, 1)]
        span = Span(FRACTIONS, 2, rows)
        self.assertTrue(span == Span(FRACTIONS, 2, lists(rows)))
        self.assertFalse(span != Span(FRACTIONS, 2, lists(rows)))
        self.assertTrue(span == Span(FRACTIONS, 2).with_row(rows[0]).with_row(list(rows[1])))
        for other in (Span(Field(7), 2, rows), Span(FRACTIONS, 2, rows[:1]), Span(FRACTIONS, 2, rows[::-1]), None,
                      FRACTIONS, tuple(rows), rows, object()):
            self.assertFalse(span == other)
            self.assertFalse(other == span)
            self.assertTrue(span != other)
            self.assertTrue(other != span)
        self.assertTrue(Span(FRACTIONS, 2) != Span(FRACTIONS, 3))
        self.assertTrue(Span(FRACTIONS, 2) != Span(Field(2), 2))


class Counted(unittest.TestCase):
    """Small spans by rests, against all sums of multiples counted out."""

    def spans(self):
        for prime, width, many in ((2, 3, 4), (3, 2, 3), (3, 3, 3), (5, 2, 3), (2, 4, 5)):
            for seed in range(12):
                rows = some_rows(prime, width, many, seed)
                yield prime, width, rows, Span(Field(prime), width, rows)

    def test_rank_and_kept(self):
        for prime, width, rows, span in self.spans():
            kept = [k for k, row in enumerate(rows) if row not in all_sums(prime, width, rows[:k])]
            self.assertEqual(span.kept, tuple(kept))
            self.assertEqual(span.rank, len(kept))
            self.assertEqual(span.rows, tuple(rows))

    def test_new_rows_and_weights(self):
        for prime, width, rows, span in self.spans():
            sums = all_sums(prime, width, rows)
            for row in all_rows(prime, width):
                self.assertIs(span.is_new(row), row not in sums)
                weights = span.weights(list(row))
                if row not in sums:
                    self.assertIs(weights, None)
                else:
                    self.assertEqual(len(weights), len(rows))
                    self.assertEqual([w for k, w in enumerate(weights) if k not in span.kept],
                                     [(0, 1)] * (len(rows) - span.rank))
                    self.assertEqual(row_table(Field(prime), weights, rows), row)

    def test_echelon(self):
        for prime, width, rows, span in self.spans():
            told = span.echelon()
            leads = [[part != (0, 1) for part in row].index(True) for row in told]
            self.assertEqual(leads, sorted(set(leads)))
            for k, row in enumerate(told):
                self.assertEqual([row[lead] for lead in leads], [(int(k == j), 1) for j in range(len(leads))])
            self.assertEqual(all_sums(prime, width, told), all_sums(prime, width, rows))

    def test_silent_rows(self):
        for prime, width, rows, span in self.spans():
            leads = [[part != (0, 1) for part in row].index(True) for row in span.echelon()]
            free = [place for place in range(width) if place not in leads]
            told = span.silent_rows()
            self.assertEqual(len(told), len(free))
            for k, row in enumerate(told):
                self.assertEqual([row[place] for place in free], [(int(k == j), 1) for j in range(len(free))])
            silent = {row for row in all_rows(prime, width)
                      if all(sum(a[0] * b[0] for a, b in zip(row, other)) % prime == 0 for other in rows)}
            self.assertEqual(all_sums(prime, width, told), silent)


class Fractions(unittest.TestCase):
    def test_rank_kept_and_weights(self):
        for seed in range(20):
            width = 1 + seed % 5
            rows = value_table(seed, 4, width, FRACTIONS)
            rows = rows[:2] + [[a - 3 * b for a, b in zip(rows[0], rows[1])]] + rows[2:]
            span = Span(FRACTIONS, width, packed_table(FRACTIONS, rows))
            kept = [k for k in range(5) if rank_of(rows[:k + 1]) > rank_of(rows[:k])]
            self.assertEqual((span.kept, span.rank), (tuple(kept), len(kept)))
            for factors in value_table(seed + 99, 3, 5, FRACTIONS):
                row = packed_row(FRACTIONS, product_of([factors], rows)[0])
                weights = span.weights(row)
                self.assertIs(span.is_new(row), False)
                self.assertEqual(row_table(FRACTIONS, weights, span.rows), row)
                self.assertEqual([weights[k] for k in range(5) if k not in kept], [(0, 1)] * (5 - len(kept)))

    def test_kept_rows_have_weights_of_their_own(self):
        span = Span(FRACTIONS, 3, [wholes(3, 1, 0), wholes(0, 0, 2), wholes(6, 2, 4), wholes(1, 1, 1)])
        self.assertEqual(span.kept, (0, 1, 3))
        for place in span.kept:
            self.assertEqual(span.weights(span.rows[place]), unit_row(4, place))
        self.assertEqual(span.weights(span.rows[2]), wholes(2, 2, 0, 0))
        self.assertEqual(span.weights(zero_row(3)), zero_row(4))

    def test_echelon_by_hand(self):
        span = Span(FRACTIONS, 4, [wholes(0, 2, 4, 6), wholes(3, 1, 5, 0)])
        self.assertEqual(span.echelon(), (((1, 1), (0, 1), (1, 1), (-1, 1)), ((0, 1), (1, 1), (2, 1), (3, 1))))
        self.assertEqual(span.silent_rows(), (wholes(-1, -2, 1, 0), wholes(1, -3, 0, 1)))

    def test_leading_places_that_come_late_first(self):
        rows = [wholes(0, 0, 0, 2), wholes(0, 3, 1, 1), wholes(5, 1, 1, 1)]
        span = Span(FRACTIONS, 4, rows)
        self.assertEqual(span.echelon(), (((1, 1), (0, 1), (2, 15), (0, 1)), ((0, 1), (1, 1), (1, 3), (0, 1)),
                                          wholes(0, 0, 0, 1)))
        self.assertEqual(span.silent_rows(), (((-2, 15), (-1, 3), (1, 1), (0, 1)),))
        self.assertEqual(span.echelon(), Span(FRACTIONS, 4, rows[::-1]).echelon())

    def test_long_numbers(self):
        most = 10 ** 29
        rows = [((most + 1, most - 1), (1, most + 7)), ((most, 3), (-1, most))]
        span = Span(FRACTIONS, 2, rows)
        self.assertEqual(span.rank, 2)
        self.assertEqual(row_table(FRACTIONS, span.weights(wholes(1, 1)), rows), wholes(1, 1))


class Growing(unittest.TestCase):
    def test_with_row(self):
        for field in FIELDS:
            rows = packed_table(field, value_table(5, 5, 3, field))
            span = Span(field, 3)
            older = []
            for many, row in enumerate(rows):
                older.append(span)
                span = span.with_row(row)
                self.assertEqual(span, Span(field, 3, rows[:many + 1]))
            for many, old in enumerate(older):
                fresh = Span(field, 3, rows[:many])
                self.assertEqual((old.rows, old.rank, old.kept), (rows[:many], fresh.rank, fresh.kept))
                self.assertEqual(old.echelon(), fresh.echelon())
                self.assertEqual(old.silent_rows(), fresh.silent_rows())
            self.assertEqual(span.echelon(), Span(field, 3, rows).echelon())
            self.assertEqual((span.kept, span.rank), (Span(field, 3, rows).kept, Span(field, 3, rows).rank))
            for row in rows:
                self.assertEqual(span.weights(row), Span(field, 3, rows).weights(row))

    def test_two_spans_of_one(self):
        span = Span(FRACTIONS, 2, [wholes(1, 1)])
        one, other = span.with_row(wholes(1, 0)), span.with_row(wholes(2, 2))
        self.assertEqual((span.rank, one.rank, other.rank), (1, 2, 1))
        self.assertEqual((one.kept, other.kept), ((0, 1), (0,)))
        self.assertEqual(other.with_row(wholes(0, 1)).weights(wholes(1, 0)), wholes(1, 0, -1))
        self.assertEqual(one.rows, (wholes(1, 1), wholes(1, 0)))

    def test_refusals(self):
        span = Span(Field(7), 2, [wholes(1, 0)])
        for row in (None, 1, "ab", wholes(1), wholes(1, 1, 1), [(7, 1), (0, 1)], [(1, 2), (0, 1)], [(1, 1), [0, 1]],
                    ((True, 1), (0, 1)), {(1, 1): 1, (0, 1): 2}, ()):
            for call in (span.with_row, span.is_new, span.weights):
                self.assertEqual(raised(call, row), (BadRow, ("row",)))
        self.assertEqual((span.rows, span.rank, span.kept), ((wholes(1, 0),), 1, (0,)))
        self.assertEqual(span, Span(Field(7), 2, [wholes(1, 0)]))


class Solving(unittest.TestCase):
    def check(self, field, table, goal):
        """What solve returns, tested by its sums alone; lists give the same."""
        told = solve(field, table, goal)
        self.assertIsInstance(told, tuple)
        word, row = told
        self.assertIsInstance(row, tuple)
        columns = [tuple(line[k] for line in table) for k in range(len(table[0]))]
        span = Span(field, len(table), columns)
        if span.is_new(goal):
            self.assertEqual(word, "none")
            self.assertEqual([dot(field, row, column) for column in columns], [(0, 1)] * len(columns))
            self.assertEqual(dot(field, row, goal), (1, 1))
            silent = [line for line in span.silent_rows() if dot(field, line, goal) != (0, 1)]
            size = dot(field, silent[0], goal)
            self.assertEqual(row, tuple(field.over(part, size) for part in silent[0]))
        else:
            self.assertEqual(word, "point")
            self.assertEqual(row, span.weights(goal))
            self.assertEqual(table_row(field, table, row), tuple(goal))
        self.assertEqual(solve(field, lists(table), list(goal)), told)
        return told

    def test_one_point(self):
        table = (wholes(2, 1), wholes(1, 1))
        self.assertEqual(self.check(FRACTIONS, table, wholes(5, 3)), ("point", wholes(2, 1)))
        self.assertEqual(self.check(Field(7), table, wholes(5, 3)), ("point", wholes(2, 1)))
        self.assertEqual(self.check(FRACTIONS, [[(3, 1)]], [(2, 1)]), ("point", ((2, 3),)))

    def test_many_points(self):
        self.assertEqual(self.check(FRACTIONS, (wholes(0, 2, 4, 1),), wholes(6)), ("point", wholes(0, 3, 0, 0)))
        table = (wholes(1, 2, 0, 1), wholes(0, 0, 1, 1))
        self.assertEqual(self.check(FRACTIONS, table, wholes(3, 4)), ("point", wholes(3, 0, 4, 0)))

    def test_no_point(self):
        table = (wholes(1, 1), wholes(1, 1), wholes(0, 1))
        self.assertEqual(self.check(FRACTIONS, table, wholes(1, 3, 0)), ("none", ((-1, 2), (1, 2), (0, 1))))
        self.assertEqual(self.check(FRACTIONS, (wholes(0), wholes(0)), wholes(0, 4)), ("none", ((0, 1), (1, 4))))
        self.assertEqual(self.check(FRACTIONS, (wholes(0), wholes(0)), wholes(3, 4)), ("none", ((1, 3), (0, 1))))

    def test_the_first_silent_row_that_hears_the_goal(self):
        table = (wholes(1), wholes(0), wholes(0), wholes(0))
        self.assertEqual(self.check(FRACTIONS, table, wholes(7, 0, 5, 2)), ("none", ((0, 1), (0, 1), (1, 5), (0, 1))))

    def test_rows_of_no_numbers(self):
        for field in FIELDS:
            for table in (((), ()), [[], []]):
                self.assertEqual(solve(field, table, zero_row(2)), ("point", ()))
                self.assertEqual(solve(field, table, [(0, 1), (1, 1)]), ("none", ((0, 1), (1, 1))))
        self.assertEqual(solve(FRACTIONS, ((),), wholes(5)), ("none", ((1, 5),)))

    def test_zero_goal(self):
        for field in FIELDS:
            table = packed_table(field, value_table(8, 3, 4, field))
            self.assertEqual(self.check(field, table, zero_row(3)), ("point", zero_row(4)))

    def test_many_systems(self):
        for field in FIELDS:
            for seed in range(10):
                for many, width in ((1, 1), (2, 4), (3, 2), (4, 4), (4, 1)):
                    table = value_table(seed, many, width, field)
                    if seed % 2:
                        table[-1] = [2 * part for part in table[0]]
                    goal = value_table(seed + 33, 1, many, field)[0]
                    point = value_table(seed + 44, 1, width, field)[0]
                    self.check(field, packed_table(field, table), packed_row(field, goal))
                    word, _ = self.check(field, packed_table(field, table),
                                         packed_row(field, times_column(table, point)))
                    self.assertEqual(word, "point")

    def test_more_columns_than_rows_are_passed(self):
        table = (tuple((k, 1) for k in range(180)),)
        self.assertEqual(solve(FRACTIONS, table, wholes(5)), ("point", wholes(0, 5) + zero_row(178)))

    def test_sixty_rows(self):
        word, point = solve(FRACTIONS, unit_table(60), tuple((k, 1) for k in range(60)))
        self.assertEqual((word, point), ("point", tuple((k, 1) for k in range(60))))


class Inverses(unittest.TestCase):
    def test_by_hand(self):
        self.assertEqual(inverse(FRACTIONS, [[(2, 1)]]), (((1, 2),),))
        self.assertEqual(inverse(FRACTIONS, (wholes(1, 2), wholes(3, 4))), (((-2, 1), (1, 1)), ((3, 2), (-1, 2))))
        self.assertEqual(inverse(Field(7), (wholes(1, 2), wholes(3, 4))), (wholes(5, 1), wholes(5, 3)))
        self.assertIs(inverse(Field(2), (wholes(1, 0), wholes(1, 0))), None)
        self.assertEqual(inverse(FRACTIONS, ()), ())

    def test_none_only_by_rests(self):
        table = (wholes(1, 3), wholes(5, 1))
        self.assertIs(inverse(Field(7), table), None)
        self.assertEqual(inverse(FRACTIONS, table), (((-1, 14), (3, 14)), ((5, 14), (-1, 14))))
        for field in FIELDS:
            self.assertIs(inverse(field, (wholes(0),)), None)
            self.assertIs(inverse(field, (wholes(1, 1), wholes(1, 1))), None)

    def test_all_sizes(self):
        for field in FIELDS:
            for size in (1, 2, 3, 4):
                for seed in range(12):
                    table = value_table(seed, size, size, field)
                    if seed % 4 == 3:
                        table[-1] = [sum(row[k] for row in table[:-1]) + Fraction(0) for k in range(size)]
                    told = packed_table(field, table)
                    found = inverse(field, told)
                    self.assertEqual(inverse(field, lists(told)), found)
                    if Span(field, size, told).rank < size:
                        self.assertIs(found, None)
                    else:
                        self.assertEqual(table_table(field, found, told), unit_table(size))
                        self.assertEqual(table_table(field, told, found), unit_table(size))

    def test_fractions_against_their_rank(self):
        for seed in range(10):
            table = value_table(seed, 3, 3, FRACTIONS)
            table[1] = [2 * part for part in table[0]] if seed % 2 else table[1]
            self.assertEqual(inverse(FRACTIONS, packed_table(FRACTIONS, table)) is None, rank_of(table) < 3)

    def test_sixty_by_sixty(self):
        table = [[(int(j >= k), 1) for j in range(60)] for k in range(60)]
        found = inverse(FRACTIONS, table)
        self.assertEqual(found[0], wholes(1, -1) + zero_row(58))
        self.assertEqual([opened(row).count(0) for row in found], [58] * 59 + [59])

    def test_packed_numbers(self):
        self.assertEqual(packed(Field(7), Fraction(1, 2)), (4, 1))


class SpacesOfRows(unittest.TestCase):
    def test_echelon_rows(self):
        for field in FIELDS:
            rows = packed_table(field, value_table(7, 3, 4, field))
            self.assertEqual(echelon_rows(field, 4, rows), Span(field, 4, rows).echelon())
            self.assertEqual(echelon_rows(field, 4, ()), ())

    def test_silent_space(self):
        self.assertEqual(silent_space(FRACTIONS, 2, [wholes(2, 1)]), (((1, 1), (-2, 1)),))
        for field in FIELDS:
            self.assertEqual(silent_space(field, 3, ()), unit_table(3))
            self.assertEqual(silent_space(field, 3, unit_table(3)), ())
            rows = packed_table(field, value_table(7, 2, 4, field))
            told = silent_space(field, 4, rows)
            self.assertEqual(told, Span(field, 4, told).echelon())
            self.assertEqual(len(told), 4 - Span(field, 4, rows).rank)
            self.assertTrue(all(dot(field, row, other) == (0, 1) for row in told for other in rows))


class Products(unittest.TestCase):
    def test_weights_are_the_only_ones(self):
        for seed in range(6):
            rows = some_rows(3, 3, 3, seed)
            span = Span(Field(3), 3, rows)
            for row in all_rows(3, 3):
                found = [weights for weights in product(range(3), repeat=3)
                         if all(weights[k] == 0 for k in range(3) if k not in span.kept)
                         and row_table(Field(3), wholes(*weights), rows) == row]
                told = span.weights(row)
                self.assertEqual([] if told is None else [tuple(w[0] for w in told)], found)


if __name__ == "__main__":
    unittest.main()
