"""Sums done without the package, and things that several tests need."""

from fractions import Fraction
from itertools import product
from random import Random

from untaughthelm.fields import Field

PRIMES = (2, 3, 5, 7, 11, 13, 17, 19, 23, 29, 31, 37, 41, 43, 47, 53, 59, 61, 67, 71, 73, 79, 83, 89, 97)

FRACTIONS = Field()
FIELDS = (FRACTIONS, Field(2), Field(3), Field(7), Field(97))


def packed(field, value):
    """The number of the field that a fraction stands for."""
    value = Fraction(value)
    if field.prime is None:
        return value.numerator, value.denominator
    return value.numerator * pow(value.denominator, -1, field.prime) % field.prime, 1


def packed_row(field, values):
    return tuple(packed(field, value) for value in values)


def packed_table(field, rows):
    return tuple(packed_row(field, row) for row in rows)


def wholes(*values):
    """A row of whole numbers, as it stands in the fractions and by every prime above them."""
    return tuple((value, 1) for value in values)


def opened(row):
    """The fractions of a row of numbers, with which sums can be done."""
    return [Fraction(top, bottom) for top, bottom in row]


def times_column(table, row):
    return [sum((a * b for a, b in zip(line, row)), Fraction(0)) for line in table]


def product_of(one, other):
    return [[sum((row[k] * other[k][j] for k in range(len(other))), Fraction(0)) for j in range(len(other[0]))]
            for row in one]


def sum_of(one, other):
    return [[a + b for a, b in zip(left, right)] for left, right in zip(one, other)]


def values(seed, many, field):
    """Some fractions that stand for numbers of the field: their bottoms are not 0 in it."""
    source = Random(seed)
    bottoms = [b for b in (1, 1, 1, 2, 3, 5) if field.prime is None or b % field.prime]
    return [Fraction(source.randint(-9, 9), source.choice(bottoms)) for _ in range(many)]


def value_table(seed, many, width, field):
    told = values(seed, many * width, field)
    return [told[k * width:(k + 1) * width] for k in range(many)]


def lists(thing):
    """The same rows as lists; numbers stay tuples."""
    if isinstance(thing, (list, tuple)) and not (len(thing) == 2 and isinstance(thing[0], int)):
        return [lists(part) for part in thing]
    return thing


def all_sums(prime, width, rows):
    """All sums of multiples of rows by a small prime, counted out one by one."""
    found = set()
    for factors in product(range(prime), repeat=len(rows)):
        found.add(tuple(sum(f * row[k][0] for f, row in zip(factors, rows)) % prime for k in range(width)))
    return {tuple((part, 1) for part in row) for row in found}


def all_rows(prime, width):
    """All rows of rests of this width."""
    return [tuple((part, 1) for part in row) for row in product(range(prime), repeat=width)]


def raised(call, *args, **named):
    """The class and the attributes of what a call raises; None if it raises nothing."""
    try:
        call(*args, **named)
    except ValueError as error:
        return type(error), tuple(value for name, value in sorted(vars(error).items()) if name != "told")
    return None
