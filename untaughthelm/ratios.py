"""Ratios: exact fractions, tuples (top, bottom) of whole numbers in lowest terms, the bottom 1 or more."""

from math import gcd, lcm

from untaughthelm.errors import BadNumber

ZERO = (0, 1)
ONE = (1, 1)

_MOST_FIGURES = 200


def is_whole(thing, low=None, high=None):
    """Return whether thing is a whole number, and from low to high where these are told."""
    if not isinstance(thing, int) or isinstance(thing, bool):
        return False
    return (low is None or thing >= low) and (high is None or thing <= high)


def is_sequence(thing, low=None, high=None):
    """Return whether thing is a list or a tuple, and of low to high things where these are told."""
    return isinstance(thing, (list, tuple)) and is_whole(len(thing), low, high)


def is_ratio(thing):
    """Return whether thing is a ratio."""
    if not isinstance(thing, tuple) or len(thing) != 2:
        return False
    top, bottom = thing
    return is_whole(top) and is_whole(bottom, 1) and gcd(top, bottom) == 1


def make_ratio(top, bottom=1):
    """Return the ratio of top over bottom."""
    if not is_whole(top):
        raise BadNumber(top)
    if not is_whole(bottom) or bottom == 0:
        raise BadNumber(bottom)
    return _in_lowest_terms(top, bottom)


def _in_lowest_terms(top, bottom):
    common = gcd(top, bottom)
    if bottom < 0:
        common = -common
    return top // common, bottom // common


def ratio_plus(one, other):
    """Return the sum of two ratios."""
    return _in_lowest_terms(one[0] * other[1] + other[0] * one[1], one[1] * other[1])


def ratio_minus(one, other):
    """Return the difference of two ratios."""
    return _in_lowest_terms(one[0] * other[1] - other[0] * one[1], one[1] * other[1])


def ratio_times(one, other):
    """Return the product of two ratios."""
    return _in_lowest_terms(one[0] * other[0], one[1] * other[1])


def ratio_over(one, other):
    """Return the quotient of two ratios, the second one not 0."""
    return _in_lowest_terms(one[0] * other[1], one[1] * other[0])


def ratio_negative(one):
    """Return the negative of a ratio."""
    return -one[0], one[1]


def ratio_size(one):
    """Return the absolute value of a ratio."""
    return abs(one[0]), one[1]


def compare_ratios(one, other):
    """Return -1, 0 or 1 as the first ratio is less than, equal to or greater than the second."""
    left = one[0] * other[1]
    right = other[0] * one[1]
    if left == right:
        return 0
    return -1 if left < right else 1


def least_ratio(things):
    """Return the least of some ratios, at least one."""
    least = things[0]
    for thing in things:
        if compare_ratios(thing, least) < 0:
            least = thing
    return least


def greatest_ratio(things):
    """Return the greatest of some ratios, at least one."""
    greatest = things[0]
    for thing in things:
        if compare_ratios(thing, greatest) > 0:
            greatest = thing
    return greatest


def common_bottom(things):
    """Return the least whole number above 0 that makes each of some ratios whole."""
    bottom = 1
    for thing in things:
        bottom = lcm(bottom, thing[1])
    return bottom


def whole_times(one, factor):
    """Return a ratio times a multiple of its bottom, as a whole number."""
    return one[0] * (factor // one[1])


def ratio_text(one):
    """Return the text of a ratio: its top, and behind a stroke its bottom if that is not 1."""
    if one[1] == 1:
        return str(one[0])
    return f"{one[0]}/{one[1]}"


def parse_ratio(text):
    """Return the ratio that has exactly this text."""
    if not isinstance(text, str):
        raise BadNumber(text)
    top, stroke, bottom = text.partition("/")
    if not _are_figures(top.removeprefix("-")):
        raise BadNumber(text)
    if stroke == "":
        bottom = "1"
    elif not _are_figures(bottom):
        raise BadNumber(text)
    ratio = (int(top), int(bottom))
    # Whoever writes leading zeros, "-0" or a bottom of 1 does not get the same text back.
    if not is_ratio(ratio) or ratio_text(ratio) != text:
        raise BadNumber(text)
    return ratio


def _are_figures(word):
    # isdigit alone would let in the figures of other scripts.
    return word.isascii() and word.isdigit() and len(word) <= _MOST_FIGURES
