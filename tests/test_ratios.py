import unittest
from fractions import Fraction
from itertools import product
from math import gcd
from random import Random

from sums import raised
from untaughthelm.errors import BadNumber
from untaughthelm.ratios import ONE, ZERO, compare_ratios, greatest_ratio, is_ratio, is_sequence, is_whole, least_ratio
from untaughthelm.ratios import make_ratio, parse_ratio, ratio_minus, ratio_negative, ratio_over, ratio_plus
from untaughthelm.ratios import ratio_size, ratio_text, ratio_times

NO_WHOLES = (True, False, None, "1", "", 1.0, (1,), (1, 1), [1], Fraction(1))


def ratio(value):
    return value.numerator, value.denominator


def some_fractions():
    small = [Fraction(a, b) for a in range(-4, 5) for b in (1, 2, 3, 4)]
    source = Random(11)
    long = []
    for figures in (30, 300):
        for sign in (1, -1):
            top, bottom = source.randrange(10 ** (figures - 1), 10 ** figures), source.randrange(1, 10 ** figures)
            long += [Fraction(sign * top, bottom), Fraction(sign * top), Fraction(sign, bottom)]
    return small + long


class Kinds(unittest.TestCase):
    def test_zero_and_one(self):
        self.assertEqual(ZERO, (0, 1))
        self.assertEqual(ONE, (1, 1))

    def test_whole_numbers(self):
        for thing in (0, 1, -1, 10 ** 300, -10 ** 300):
            self.assertIs(is_whole(thing), True)
        for thing in NO_WHOLES:
            self.assertIs(is_whole(thing), False)
            self.assertIs(is_whole(thing, 0, 2), False)

    def test_whole_numbers_with_low_and_high(self):
        for thing in range(-3, 4):
            self.assertIs(is_whole(thing, -1), thing >= -1)
            self.assertIs(is_whole(thing, 0), thing >= 0)
            self.assertIs(is_whole(thing, None, 1), thing <= 1)
            self.assertIs(is_whole(thing, high=0), thing <= 0)
            self.assertIs(is_whole(thing, low=-2, high=2), -2 <= thing <= 2)
            self.assertIs(is_whole(thing, 0, 0), thing == 0)
            self.assertIs(is_whole(thing, 1, -1), False)

    def test_sequences(self):
        for thing in ([], (), [1, 2], (1, 2)):
            self.assertIs(is_sequence(thing), True)
        for thing in (None, "ab", {1: 2}, {1, 2}, range(2), iter([1]), 3):
            self.assertIs(is_sequence(thing), False)
        self.assertEqual([is_sequence([0] * many, 1, 3) for many in range(5)], [False, True, True, True, False])

    def test_ratios(self):
        for top, bottom in product(range(-6, 7), range(-3, 7)):
            self.assertIs(is_ratio((top, bottom)), bottom >= 1 and gcd(top, bottom) == 1)
        self.assertIs(is_ratio((10 ** 300, 10 ** 300 + 1)), True)

    def test_what_is_no_ratio(self):
        for thing in ([1, 2], (), (1,), (1, 1, 1), (True, 1), (1, True), (False, 1), (1, "2"), ("1", 2), (1, None),
                      (None, 1), (1.0, 2), (1, 2.0), "12", "1/2", 1, None, True, {1: 2, 3: 4}, {1, 2},
                      ((1, 1), (1, 1))):
            self.assertIs(is_ratio(thing), False, thing)

    def test_make_ratio(self):
        for top in range(-8, 9):
            self.assertEqual(make_ratio(top), (top, 1))
            for bottom in range(-8, 9):
                if bottom:
                    made = make_ratio(top, bottom)
                    self.assertEqual(made, ratio(Fraction(top, bottom)))
                    self.assertIs(is_ratio(made), True)
        self.assertEqual(make_ratio(bottom=-4, top=6), (-3, 2))
        self.assertEqual(make_ratio(10 ** 300, -10 ** 299), (-10, 1))

    def test_make_ratio_refuses(self):
        for thing in NO_WHOLES:
            self.assertEqual(raised(make_ratio, thing), (BadNumber, (thing,)))
            self.assertEqual(raised(make_ratio, thing, 0), (BadNumber, (thing,)))
            self.assertEqual(raised(make_ratio, thing, "2"), (BadNumber, (thing,)))
            self.assertEqual(raised(make_ratio, 1, thing), (BadNumber, (thing,)))
        self.assertEqual(raised(make_ratio, 1, 0), (BadNumber, (0,)))
        self.assertEqual(raised(make_ratio, 0, 0), (BadNumber, (0,)))
        self.assertEqual(raised(make_ratio, "x", "y"), (BadNumber, ("x",)))


class Sums(unittest.TestCase):
    def test_against_fractions(self):
        for one, other in product(some_fractions(), repeat=2):
            a, b = ratio(one), ratio(other)
            self.assertEqual(ratio_plus(a, b), ratio(one + other))
            self.assertEqual(ratio_minus(a, b), ratio(one - other))
            self.assertEqual(ratio_times(a, b), ratio(one * other))
            if other:
                self.assertEqual(ratio_over(a, b), ratio(one / other))
            self.assertEqual(compare_ratios(a, b), (one > other) - (one < other))

    def test_negative_and_size(self):
        for one in some_fractions():
            self.assertEqual(ratio_negative(ratio(one)), ratio(-one))
            self.assertEqual(ratio_size(ratio(one)), ratio(abs(one)))

    def test_results_are_ratios(self):
        half, minus = (1, 2), (-1, 2)
        for made in (ratio_plus(half, minus), ratio_minus(half, half), ratio_times(half, ZERO), ratio_over(ZERO, minus),
                     ratio_negative(ZERO), ratio_size(ZERO)):
            self.assertEqual(made, ZERO)
            self.assertIs(is_ratio(made), True)
        self.assertEqual(ratio_over(half, minus), (-1, 1))

    def test_least_and_greatest(self):
        for many in (1, 2, 3):
            for chosen in product([Fraction(a, b) for a in (-3, 0, 2) for b in (1, 4)], repeat=many):
                told = [ratio(one) for one in chosen]
                for things in (told, tuple(told)):
                    self.assertEqual(least_ratio(things), ratio(min(chosen)))
                    self.assertEqual(greatest_ratio(things), ratio(max(chosen)))
                self.assertEqual(told, [ratio(one) for one in chosen])

    def test_least_and_greatest_of_long_numbers(self):
        chosen = some_fractions()
        self.assertEqual(least_ratio([ratio(one) for one in chosen]), ratio(min(chosen)))
        self.assertEqual(greatest_ratio([ratio(one) for one in chosen]), ratio(max(chosen)))


class Texts(unittest.TestCase):
    def refused(self, thing):
        self.assertEqual(raised(parse_ratio, thing), (BadNumber, (thing,)), thing)

    def test_written(self):
        for one, text in (((5, 1), "5"), ((-3, 1), "-3"), ((5, 2), "5/2"), ((-1, 7), "-1/7"), ((0, 1), "0"),
                          ((10, 1), "10"), ((-100, 101), "-100/101"), ((1234567890, 7), "1234567890/7")):
            self.assertEqual(ratio_text(one), text)
            self.assertEqual(parse_ratio(text), one)

    def test_written_and_read_back(self):
        for one in some_fractions():
            text = ratio_text(ratio(one))
            self.assertEqual(text, str(one))
            if len(text) <= 200:
                self.assertEqual(parse_ratio(text), ratio(one))

    def test_each_figure_is_read(self):
        for figure in "123456789":
            self.assertEqual(parse_ratio(figure), (int(figure), 1))
            self.assertEqual(parse_ratio("1/1" + figure), (1, int("1" + figure)))

    def test_no_string(self):
        for thing in (None, 5, True, 1.5, (1, 2), (5, 1), ["5"], b"5", ("5",)):
            self.refused(thing)

    def test_empty_parts(self):
        for text in ("", "-", "/", "1/", "/2", "-/2", "1//2", "1/2/3", "1/2/", "/1/2"):
            self.refused(text)

    def test_leading_zeros(self):
        for text in ("00", "01", "-01", "007", "01/2", "1/02", "-1/02", "00/1", "0/02"):
            self.refused(text)

    def test_plus_and_minus(self):
        for text in ("+1", "+0", "1/+2", "-0", "-0/1", "-0/5", "1/-2", "-1/-2", "--1", "1-", "-+1", "+-1"):
            self.refused(text)

    def test_bottoms(self):
        for text in ("1/0", "0/0", "-1/0", "1/1", "0/1", "-7/1", "2/4", "-2/4", "0/5", "6/3", "10/5"):
            self.refused(text)

    def test_blanks(self):
        for text in (" ", " 1", "1 ", "1 /2", "1/ 2", "1/2 ", " 1/2", "- 1", "1 2", "\t1", "1\n", "1/2\n"):
            self.refused(text)

    def test_other_signs(self):
        for text in ("a", "1a", "0x1", "1.5", "1.0", "1e3", "1_0", "1_000/3", "1,5", "1:2", "1\\2", "(1)", "\u22121", "one",
                     "1\x00", "inf"):
            self.refused(text)

    def test_figures_of_other_scripts(self):
        for text in ("\u0661", "\u0967", "1\u0662", "1/\u0663", "\u0661/2", "\uff11", "\u00b2", "1/\u00b3", "\u00bd", "\u2460", "\u4e00"):
            self.refused(text)

    def test_two_hundred_figures(self):
        long = "9" * 200
        most = 10 ** 200 - 1
        self.assertEqual(parse_ratio(long), (most, 1))
        self.assertEqual(parse_ratio("-" + long), (-most, 1))
        self.assertEqual(parse_ratio("1/" + long), (1, most))
        self.assertEqual(parse_ratio(long + "/1" + "0" * 199), (most, 10 ** 199))
        self.assertEqual(parse_ratio("-" + long + "/1" + "0" * 199), (-most, 10 ** 199))

    def test_more_than_two_hundred_figures(self):
        longer = "1" + "0" * 200
        for text in (longer, "-" + longer, "1/" + longer, longer + "/3", "3/" + longer, "1" * 5000, "1/" + "1" * 5000,
                     "0" * 201):
            self.refused(text)

    def test_longer_numbers_are_written(self):
        self.assertEqual(ratio_text((10 ** 300, 1)), "1" + "0" * 300)
        self.assertEqual(ratio_text((-1, 10 ** 300)), "-1/1" + "0" * 300)


if __name__ == "__main__":
    unittest.main()
