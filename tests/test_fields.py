import unittest
from fractions import Fraction
from itertools import product

from sums import FIELDS, FRACTIONS, PRIMES, packed, raised
from untaughthelm.errors import BadField, BadNumber, MixedFields
from untaughthelm.fields import Field, same_field
from untaughthelm.ratios import make_ratio

NO_WHOLES = (True, False, None, "1", 1.0, (1, 1), [1])


class Making(unittest.TestCase):
    def test_each_prime(self):
        self.assertEqual(len(PRIMES), 25)
        for prime in PRIMES:
            self.assertEqual(Field(prime).prime, prime)
            self.assertEqual(Field(prime=prime).prime, prime)

    def test_fractions(self):
        self.assertIs(Field().prime, None)
        self.assertIs(Field(None).prime, None)

    def test_every_other_whole_number_is_refused(self):
        for thing in range(-110, 210):
            if thing not in PRIMES:
                self.assertEqual(raised(Field, thing), (BadField, (thing,)))

    def test_other_things_are_refused(self):
        for thing in (True, False, "7", "", 2.0, 7.0, (7,), [7], (7, 1), Fraction(7), FRACTIONS):
            self.assertEqual(raised(Field, thing), (BadField, (thing,)))

    def test_equal_and_unlike_fields(self):
        told = (None,) + PRIMES
        for one, other in product(told, repeat=2):
            self.assertIs(Field(one) == Field(other), one == other)
            self.assertIs(Field(one) != Field(other), one != other)
        for thing in (None, 7, "7", (7,), object()):
            self.assertIs(Field(7) == thing, False)
            self.assertIs(Field(7) != thing, True)
            self.assertIs(Field() == thing, False)

    def test_same_field(self):
        self.assertIs(same_field(Field(), Field()), None)
        self.assertIs(same_field(Field(97), Field(97)), None)
        for one, other in ((Field(), Field(2)), (Field(2), Field()), (Field(3), Field(5))):
            self.assertEqual(raised(same_field, one, other), (MixedFields, ()))


class Numbers(unittest.TestCase):
    def test_number_by_every_prime(self):
        for prime in PRIMES:
            field = Field(prime)
            for top in (-100, -1, 0, 1, 5, 96, 97, 1000):
                self.assertEqual(field.number(top), (top % prime, 1))
                for bottom in (-98, -3, -1, 1, 2, 3, 95, 10 ** 30 + 1):
                    if bottom % prime == 0:
                        self.assertEqual(raised(field.number, top, bottom), (BadNumber, (bottom,)))
                    else:
                        told = field.number(top, bottom)
                        self.assertEqual(told, packed(field, Fraction(top) / bottom))
                        self.assertEqual((told[0] * bottom - top) % prime, 0)
                        self.assertIs(field.holds(told), True)

    def test_number_over_fractions(self):
        for top, bottom in product(range(-6, 7), (-4, -1, 1, 2, 3, 7)):
            self.assertEqual(FRACTIONS.number(top, bottom), make_ratio(top, bottom))
        self.assertEqual(FRACTIONS.number(bottom=-4, top=6), (-3, 2))
        self.assertEqual(FRACTIONS.number(3), (3, 1))

    def test_number_refuses(self):
        for field in FIELDS:
            for thing in NO_WHOLES:
                self.assertEqual(raised(field.number, thing), (BadNumber, (thing,)))
                self.assertEqual(raised(field.number, thing, 0), (BadNumber, (thing,)))
                self.assertEqual(raised(field.number, thing, "x"), (BadNumber, (thing,)))
                self.assertEqual(raised(field.number, 1, thing), (BadNumber, (thing,)))
            self.assertEqual(raised(field.number, 1, 0), (BadNumber, (0,)))

    def test_bottoms_that_are_zero_only_by_rests(self):
        self.assertEqual(raised(Field(7).number, 1, 7), (BadNumber, (7,)))
        self.assertEqual(raised(Field(7).number, 7, -14), (BadNumber, (-14,)))
        self.assertEqual(raised(Field(2).number, 1, 6), (BadNumber, (6,)))
        self.assertEqual(FRACTIONS.number(1, 7), (1, 7))
        self.assertEqual(Field(5).number(1, 7), (3, 1))

    def test_holds_fractions(self):
        for thing in ((0, 1), (1, 1), (-3, 7), (7, 3), (97, 1)):
            self.assertIs(FRACTIONS.holds(thing), True)
        for thing in ([1, 1], (1, 0), (2, 4), (1, -1), (1,), (1, 1, 1), (True, 1), (1, True), 1, None, "1", "11"):
            self.assertIs(FRACTIONS.holds(thing), False)

    def test_holds_rests(self):
        for prime in PRIMES:
            field = Field(prime)
            for rest in (0, 1, prime - 1):
                self.assertIs(field.holds((rest, 1)), True)
            for thing in ((prime, 1), (-1, 1), (prime + 1, 1), (1, 2), (1, 0), (0, 2), (1, -1), [1, 1], (1,), (),
                          (1, 1, 1), (True, 1), (False, 1), (1, True), (1.0, 1), (1, 1.0), ("1", 1), (1, "1"),
                          (1, None), 1, "1", "11", None, {0: 1, 1: 1}):
                self.assertIs(field.holds(thing), False, (prime, thing))

    def test_holds_row(self):
        for field in FIELDS:
            row = [(0, 1), (1, 1), (1, 1)]
            for told in (row, tuple(row)):
                self.assertEqual([field.holds_row(told, width) for width in range(5)],
                                 [False, False, False, True, False])
            self.assertIs(field.holds_row((), 0), True)
            self.assertIs(field.holds_row([], 0), True)
            for thing in (None, 3, "abc", {0: 1, 1: 1, 2: 1}, set(row), iter(row), row[:2] + [1], row[:2] + [[1, 1]],
                          [None] + row[:2], [row], ((1, 1), (2, 0), (1, 1)), ((1, 1), (1, 1), (97, 97))):
                self.assertIs(field.holds_row(thing, 3), False)
        self.assertIs(FRACTIONS.holds_row([(1, 2), (7, 1)], 2), True)
        self.assertIs(Field(7).holds_row([(1, 1), (7, 1)], 2), False)
        self.assertIs(Field(7).holds_row([(1, 2), (6, 1)], 2), False)


class Sums(unittest.TestCase):
    def test_by_rests(self):
        for prime in (2, 3, 5, 7, 13, 97):
            field = Field(prime)
            for one, other in product(range(prime), repeat=2):
                a, b = (one, 1), (other, 1)
                self.assertEqual(field.plus(a, b), ((one + other) % prime, 1))
                self.assertEqual(field.minus(a, b), ((one - other) % prime, 1))
                self.assertEqual(field.times(a, b), (one * other % prime, 1))
                if other:
                    self.assertEqual(field.over(a, b), (one * pow(other, -1, prime) % prime, 1))

    def test_negative_and_inverse_by_every_prime(self):
        for prime in PRIMES:
            field = Field(prime)
            for rest in range(prime):
                self.assertEqual(field.negative((rest, 1)), (-rest % prime, 1))
                if rest:
                    self.assertEqual(field.over((1, 1), (rest, 1)), (pow(rest, -1, prime), 1))

    def test_over_fractions(self):
        told = [Fraction(top, bottom) for top in (-7, -1, 0, 2, 9) for bottom in (1, 2, 3, 10 ** 30)]
        for one, other in product(told, repeat=2):
            a, b = packed(FRACTIONS, one), packed(FRACTIONS, other)
            self.assertEqual(FRACTIONS.plus(a, b), packed(FRACTIONS, one + other))
            self.assertEqual(FRACTIONS.minus(a, b), packed(FRACTIONS, one - other))
            self.assertEqual(FRACTIONS.times(a, b), packed(FRACTIONS, one * other))
            if other:
                self.assertEqual(FRACTIONS.over(a, b), packed(FRACTIONS, one / other))
            self.assertEqual(FRACTIONS.negative(a), packed(FRACTIONS, -one))


class Texts(unittest.TestCase):
    def test_over_fractions(self):
        for number, text in (((5, 1), "5"), ((-3, 1), "-3"), ((5, 2), "5/2"), ((-1, 7), "-1/7"), ((0, 1), "0")):
            self.assertEqual(FRACTIONS.text(number), text)
            self.assertEqual(FRACTIONS.parse(text), number)

    def test_by_every_prime(self):
        for prime in PRIMES:
            field = Field(prime)
            for rest in range(prime):
                self.assertEqual(field.text((rest, 1)), str(rest))
                self.assertEqual(field.parse(str(rest)), (rest, 1))
            for text in (str(prime), str(prime + 1), "-1", "1/2", "-1/2", "00", "01", "+1", " 1", "1 ", "", "/", "1/1",
                         "9" * 200, "9" * 201, "\u0661", "1.0", "a"):
                self.assertEqual(raised(field.parse, text), (BadNumber, (text,)))

    def test_refused(self):
        for field in FIELDS:
            for thing in (None, 1, True, (1, 1), ["1"], b"1", "", "-0", "07", "2/4", "1/1", "0/1", "1/0", "+1", " 1",
                          "1 ", "x", "\u0661", "\u00b2", "1" * 201):
                self.assertEqual(raised(field.parse, thing), (BadNumber, (thing,)))

    def test_seven(self):
        self.assertEqual(Field(7).parse("6"), (6, 1))
        for text in ("7", "07", "-1", "1/2"):
            self.assertEqual(raised(Field(7).parse, text), (BadNumber, (text,)))
        self.assertEqual(FRACTIONS.parse("7"), (7, 1))
        self.assertEqual(FRACTIONS.parse("1/2"), (1, 2))


if __name__ == "__main__":
    unittest.main()
