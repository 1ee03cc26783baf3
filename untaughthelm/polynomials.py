"""Polynomials: tuples of their coefficients, the constant first, the last one not 0. () is the polynomial zero."""

from untaughthelm.ratios import ONE, ZERO
from untaughthelm.rows import row_minus, row_plus, row_times, zero_row


def trimmed(row):
    """Return the row without the zeros at its end."""
    many = len(row)
    while many > 0 and row[many - 1] == ZERO:
        many -= 1
    return tuple(row[:many])


def poly_plus(field, one, other):
    """Return the sum of two polynomials."""
    width = max(len(one), len(other))
    return trimmed(row_plus(field, _widened(one, width), _widened(other, width)))


def poly_times(field, one, other):
    """Return the product of two polynomials."""
    total = ()
    for power, number in enumerate(one):
        total = poly_plus(field, total, zero_row(power) + row_times(field, number, other))
    return total


def poly_rest(field, one, by):
    """Return the remainder of one divided by another polynomial, which is not ()."""
    left = trimmed(one)
    while len(left) >= len(by):
        power = len(left) - len(by)
        scale = field.over(left[-1], by[-1])
        left = trimmed(row_minus(field, left, zero_row(power) + row_times(field, scale, by)))
    return left


def common_divisor(field, polys):
    """Return the monic polynomial of the greatest degree that divides all of some polynomials.

    It is () if none of them is other than zero.
    """
    divisor = ()
    for poly in polys:
        other = _monic(field, trimmed(poly))
        while other != ():
            divisor, other = other, _monic(field, poly_rest(field, divisor, other))
    return divisor


def _widened(poly, width):
    return tuple(poly) + zero_row(width - len(poly))


def _monic(field, poly):
    return poly if poly == () else row_times(field, field.over(ONE, poly[-1]), poly)
