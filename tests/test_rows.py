import unittest
from fractions import Fraction

from sums import FIELDS, FRACTIONS, lists, packed, packed_row, packed_table, product_of, sum_of, times_column, value_table
from sums import values, wholes
from untaughthelm.fields import Field
from untaughthelm.rows import as_table, dot, row_minus, row_plus, row_table, row_times, table_plus, table_row
from untaughthelm.rows import table_table, turned, unit_row, unit_table, zero_row

SHAPES = ((1, 1), (1, 4), (4, 1), (2, 3), (3, 3), (4, 2))


class Rows(unittest.TestCase):
    def test_zero_and_unit_rows(self):
        for width in (1, 2, 4, 60):
            self.assertEqual(zero_row(width), ((0, 1),) * width)
            for place in range(width):
                row = unit_row(width, place)
                self.assertEqual(row, tuple((int(at == place), 1) for at in range(width)))
                self.assertEqual(unit_table(width)[place], row)
            self.assertEqual(len(unit_table(width)), width)
        self.assertEqual(zero_row(0), ())
        self.assertEqual(unit_table(0), ())
        self.assertEqual(unit_table(2), (((1, 1), (0, 1)), ((0, 1), (1, 1))))

    def test_tuples_all_through(self):
        self.assertEqual(as_table([[(1, 1)], [(0, 1)]]), (((1, 1),), ((0, 1),)))
        self.assertEqual(as_table([]), ())

    def test_sums_place_by_place(self):
        for field in FIELDS:
            for seed in range(6):
                one, other = values(seed, 4, field), values(seed + 50, 4, field)
                a, b = packed_row(field, one), packed_row(field, other)
                for left, right in ((a, b), (list(a), list(b)), (a, list(b))):
                    self.assertEqual(row_plus(field, left, right), packed_row(field, [x + y for x, y in zip(one, other)]))
                    self.assertEqual(row_minus(field, left, right),
                                     packed_row(field, [x - y for x, y in zip(one, other)]))
                    self.assertEqual(dot(field, left, right), packed(field, sum(x * y for x, y in zip(one, other))))
                    self.assertEqual(row_times(field, b[0], left), packed_row(field, [other[0] * x for x in one]))

    def test_rows_of_no_numbers(self):
        for field in FIELDS:
            self.assertEqual(row_plus(field, (), []), ())
            self.assertEqual(row_minus(field, [], ()), ())
            self.assertEqual(row_times(field, (1, 1), []), ())
            self.assertEqual(dot(field, (), []), (0, 1))

    def test_by_hand(self):
        self.assertEqual(dot(FRACTIONS, [(1, 2), (2, 1)], [(2, 3), (-1, 6)]), (0, 1))
        self.assertEqual(dot(Field(7), [(3, 1), (6, 1)], [(5, 1), (6, 1)]), (2, 1))
        self.assertEqual(row_minus(Field(2), [(0, 1)], [(1, 1)]), ((1, 1),))

    def test_what_is_passed_stays(self):
        one, other = [(1, 1), (2, 1)], [(3, 1), (4, 1)]
        row_plus(FRACTIONS, one, other), row_minus(FRACTIONS, one, other), row_times(FRACTIONS, (2, 1), one)
        table_table(FRACTIONS, [one, other], [other, one]), table_plus(FRACTIONS, [one], [other]), turned([one, other])
        self.assertEqual((one, other), ([(1, 1), (2, 1)], [(3, 1), (4, 1)]))


class Tables(unittest.TestCase):
    def test_table_row_and_row_table(self):
        for field in FIELDS:
            for many, width in SHAPES:
                table = value_table(many, many, width, field)
                row, line = values(width, width, field), values(width, many, field)
                told = packed_table(field, table)
                column = packed_row(field, times_column(table, row))
                across = packed_row(field, product_of([line], table)[0])
                for given in (told, lists(told), [told[0]] + lists(told)[1:]):
                    self.assertEqual(table_row(field, given, packed_row(field, row)), column)
                    self.assertEqual(table_row(field, given, list(packed_row(field, row))), column)
                    self.assertEqual(row_table(field, packed_row(field, line), given), across)
                    self.assertEqual(row_table(field, list(packed_row(field, line)), given, width), across)
                    self.assertEqual(row_table(field, packed_row(field, line), given, width=width), across)

    def test_tables_of_no_rows(self):
        for field in FIELDS:
            self.assertEqual(table_row(field, (), wholes(1, 1)), ())
            for width in (1, 3):
                self.assertEqual(row_table(field, (), (), width), ((0, 1),) * width)
                self.assertEqual(row_table(field, [], [], width=width), ((0, 1),) * width)
            self.assertEqual(table_table(field, (), [wholes(1, 1)]), ())
            self.assertEqual(table_plus(field, [], ()), ())

    def test_tables_of_rows_of_no_numbers(self):
        for field in FIELDS:
            self.assertEqual(table_row(field, ((), ()), ()), ((0, 1), (0, 1)))
            self.assertEqual(row_table(field, wholes(1, 1), ((), ())), ())
            self.assertEqual(turned(((), ())), ())

    def test_table_table(self):
        for field in FIELDS:
            for many, middle, width in ((1, 1, 1), (2, 3, 4), (4, 2, 1), (1, 4, 3), (3, 3, 3)):
                one = value_table(many, many, middle, field)
                other = value_table(many + 70, middle, width, field)
                due = packed_table(field, product_of(one, other))
                a, b = packed_table(field, one), packed_table(field, other)
                self.assertEqual(table_table(field, a, b), due)
                self.assertEqual(table_table(field, lists(a), lists(b)), due)

    def test_table_plus(self):
        for field in FIELDS:
            for many, width in SHAPES:
                one, other = value_table(3, many, width, field), value_table(4, many, width, field)
                due = packed_table(field, sum_of(one, other))
                a, b = packed_table(field, one), packed_table(field, other)
                self.assertEqual(table_plus(field, a, b), due)
                self.assertEqual(table_plus(field, lists(a), b), due)

    def test_turned(self):
        self.assertEqual(turned([[(1, 1), (2, 1), (3, 1)], [(4, 1), (5, 1), (6, 1)]]),
                         (wholes(1, 4), wholes(2, 5), wholes(3, 6)))
        for many, width in SHAPES:
            table = packed_table(FRACTIONS, value_table(9, many, width, FRACTIONS))
            self.assertEqual(turned(turned(lists(table))), table)
            self.assertEqual(len(turned(table)), width)

    def test_order_of_the_product(self):
        one, other = (wholes(1, 2), wholes(3, 4)), (wholes(0, 1), wholes(1, 1))
        self.assertEqual(table_table(FRACTIONS, one, other), (wholes(2, 3), wholes(4, 7)))
        self.assertEqual(row_table(FRACTIONS, wholes(1, 2), one), wholes(7, 10))
        self.assertEqual(table_row(FRACTIONS, one, wholes(1, 2)), wholes(5, 11))
        self.assertEqual(row_times(FRACTIONS, packed(FRACTIONS, Fraction(1, 2)), wholes(2, 3)), ((1, 1), (3, 2)))


if __name__ == "__main__":
    unittest.main()
