import unittest
from random import Random

from sums import FRACTIONS, SMALL_FIELDS, all_tuples, dots, lists, packed, packed_row, values, wholes
from untaughthelm.fields import Field
from untaughthelm.polynomials import common_divisor, poly_plus, poly_rest, poly_times, trimmed

FIELDS = SMALL_FIELDS + (Field(97),)


def cut(row):
    row = list(row)
    while row and row[-1] == (0, 1):
        row.pop()
    return tuple(row)


def own_sum(field, one, other):
    width = max(len(one), len(other))
    return cut(field.plus(*(row[k] if k < len(row) else (0, 1) for row in (one, other))) for k in range(width))


def own_product(field, one, other):
    many = len(one) + len(other) - 1
    return cut(dots(field, [one[k] for k in range(len(one)) if 0 <= at - k < len(other)],
                    [other[at - k] for k in range(len(one)) if 0 <= at - k < len(other)]) for at in range(max(many, 0)))


def product_of_all(field, polys):
    told = wholes(1)
    for poly in polys:
        told = own_product(field, told, poly)
    return told


def some_polys(field):
    yield ()
    for number in (1, 2, -1, 5):
        yield cut(packed_row(field, [number]))
    for seed in range(8):
        yield cut(packed_row(field, values(seed, 1 + seed % 6, field)))
    yield cut(packed_row(field, [0, 0, 1]))
    yield cut(packed_row(field, [0, 2, 0, 3]))


class Trimmed(unittest.TestCase):
    def test_zeros_at_the_end(self):
        for row, due in (((), ()), (wholes(0), ()), (wholes(0, 0, 0), ()), (wholes(1), wholes(1)),
                         (wholes(1, 0), wholes(1)), (wholes(0, 1), wholes(0, 1)), (wholes(0, 3, 0, 2, 0, 0), wholes(0, 3, 0, 2)),
                         (((1, 2), (0, 1)), ((1, 2),))):
            told = list(row)
            self.assertEqual(trimmed(row), due)
            self.assertEqual(trimmed(row=told), due)
            self.assertIsInstance(trimmed(told), tuple)
            self.assertEqual(told, list(row))


class Sums(unittest.TestCase):
    def test_sums_and_products(self):
        for field in FIELDS:
            for one in some_polys(field):
                for other in some_polys(field):
                    for call, due in ((poly_plus, own_sum(field, one, other)), (poly_times, own_product(field, one, other))):
                        told = call(field, one, other)
                        self.assertEqual(told, due)
                        self.assertTrue(all_tuples(told))
                        self.assertEqual(call(other=list(other), one=lists(list(one)), field=field), due)

    def test_nothing_passed_in_is_changed(self):
        one, other = list(wholes(1, 2, 3)), list(wholes(0, 1))
        for call in (poly_plus, poly_times, poly_rest, lambda field, *polys: common_divisor(field, list(polys))):
            call(FRACTIONS, one, other)
            self.assertEqual((one, other), (list(wholes(1, 2, 3)), list(wholes(0, 1))))

    def test_terms_that_cancel(self):
        for field in FIELDS:
            for one in some_polys(field):
                self.assertEqual(poly_plus(field, one, tuple(field.negative(number) for number in one)), ())
        self.assertEqual(poly_plus(FRACTIONS, wholes(1, 2, 3), wholes(1, 0, -3)), wholes(2, 2))
        self.assertEqual(poly_plus(Field(2), wholes(1, 1), wholes(0, 1)), wholes(1))
        self.assertEqual(poly_times(Field(2), wholes(1, 1), wholes(1, 1)), wholes(1, 0, 1))
        self.assertEqual(poly_times(FRACTIONS, wholes(-1, 1), wholes(1, 1)), wholes(-1, 0, 1))


class Rests(unittest.TestCase):
    def test_the_product_and_the_rest_are_the_whole(self):
        for field in FIELDS:
            for seed, by in enumerate(some_polys(field)):
                if by == ():
                    continue
                for times in some_polys(field):
                    rest = cut(packed_row(field, values(seed, len(by) - 1, field)))
                    whole = own_sum(field, own_product(field, by, times), rest)
                    told = poly_rest(field, whole, by)
                    self.assertEqual(told, rest)
                    self.assertTrue(all_tuples(told))
                    self.assertEqual(poly_rest(by=list(by), one=list(whole), field=field), rest)

    def test_shorter_ones_and_constants(self):
        self.assertEqual(poly_rest(FRACTIONS, (), wholes(1, 1)), ())
        self.assertEqual(poly_rest(FRACTIONS, wholes(5, 3), wholes(1, 0, 1)), wholes(5, 3))
        self.assertEqual(poly_rest(FRACTIONS, wholes(5, 3), wholes(7)), ())
        self.assertEqual(poly_rest(FRACTIONS, wholes(1, 0, 1), wholes(0, 2)), wholes(1))
        self.assertEqual(poly_rest(FRACTIONS, wholes(0, 0, 1), wholes(1, 2)), ((1, 4),))


class Divisors(unittest.TestCase):
    def check(self, field, polys, due):
        for told in (polys, tuple(polys), tuple(reversed(polys)), [list(poly) for poly in polys]):
            divisor = common_divisor(field, told)
            self.assertEqual(divisor, due)
            self.assertTrue(all_tuples(divisor))

    def test_polynomials_that_share_factors(self):
        # Of unlike linear factors the divisor is made of the least number of each.
        for field in FIELDS:
            source = Random(7)
            roots = list({packed(field, root) for root in (0, 1, -2, 3)})
            for _ in range(30):
                powers = [[source.randrange(3) for _ in roots] for _ in range(source.randint(1, 3))]
                polys = []
                for row in powers:
                    factors = [(field.negative(root), (1, 1)) for root, power in zip(roots, row) for _ in range(power)]
                    scale = cut(packed_row(field, [source.choice([1, 1, -1, 9, 11])])) or wholes(1)
                    polys.append(product_of_all(field, factors + [scale]))
                least = [min(column) for column in zip(*powers)]
                due = [(field.negative(root), (1, 1)) for root, power in zip(roots, least) for _ in range(power)]
                self.check(field, polys, product_of_all(field, due))
                self.check(field, polys + [()], product_of_all(field, due))

    def test_none_and_zeros(self):
        for field in FIELDS:
            self.check(field, [], ())
            self.check(field, [()], ())
            self.check(field, [(), (), ()], ())
            for poly in some_polys(field):
                due = tuple(field.over(number, poly[-1]) for number in poly)
                self.check(field, [poly], due)
                self.check(field, [poly, poly], due)
                self.check(field, [(), poly, ()], due)

    def test_constants(self):
        for field in FIELDS:
            for number in (1, 5, -1):
                poly = cut(packed_row(field, [number]))
                if poly:
                    self.check(field, [poly], wholes(1))
                    self.check(field, [poly, (), packed_row(field, [2, 3, 1])], wholes(1))

    def test_it_divides_and_is_a_sum_of_multiples(self):
        # Drawn polynomials with a drawn common factor: whatever divides them divides the divisor.
        for field in FIELDS:
            for seed in range(12):
                factor = cut(packed_row(field, values(seed, 1 + seed % 3, field) + [1]))
                polys = [own_product(field, factor, cut(packed_row(field, values(seed + k, 3, field)))) for k in (20, 40)]
                divisor = common_divisor(field=field, polys=polys)
                if any(polys):
                    self.assertEqual(divisor[-1], (1, 1))
                    self.assertTrue(all(poly_rest(field, poly, divisor) == () for poly in polys))
                    self.assertEqual(poly_rest(field, divisor, factor), ())


if __name__ == "__main__":
    unittest.main()
