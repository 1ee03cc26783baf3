"""Fields: the exact fractions, or the rests by a prime."""

from untaughthelm.errors import BadField, BadNumber, BadRow, MixedFields
from untaughthelm.ratios import is_ratio, is_sequence, is_whole, make_ratio, parse_ratio, ratio_text
from untaughthelm.ratios import ratio_minus, ratio_negative, ratio_over, ratio_plus, ratio_times

_PRIMES = (2, 3, 5, 7, 11, 13, 17, 19, 23, 29, 31, 37, 41, 43, 47, 53, 59, 61, 67, 71, 73, 79, 83, 89, 97)


class Field:
    """The field of exact fractions (prime None) or that of the rests by a prime.

    A rest r is the number (r, 1), so 0 and 1 look alike in every field.
    """

    def __init__(self, prime=None):
        if prime is not None and not (is_whole(prime) and prime in _PRIMES):
            raise BadField(prime)
        self.prime = prime
        self._inverses = () if prime is None else _inverse_rests(prime)

    def __eq__(self, other):
        return isinstance(other, Field) and self.prime == other.prime

    def number(self, top, bottom=1):
        """Return the number of the field that the whole numbers top over bottom stand for."""
        if self.prime is None:
            return make_ratio(top, bottom)
        if not is_whole(top):
            raise BadNumber(top)
        if not is_whole(bottom) or bottom % self.prime == 0:
            raise BadNumber(bottom)
        return self.over((top % self.prime, 1), (bottom % self.prime, 1))

    def holds(self, thing):
        """Return whether thing is a number of the field."""
        if self.prime is None:
            return is_ratio(thing)
        if not isinstance(thing, tuple) or len(thing) != 2:
            return False
        return is_whole(thing[0], 0, self.prime - 1) and is_whole(thing[1], 1, 1)

    def holds_row(self, thing, width):
        """Return whether thing is a list or a tuple of exactly width numbers of the field."""
        return is_sequence(thing, width, width) and all([self.holds(number) for number in thing])

    def plus(self, one, other):
        """Return the sum of two numbers."""
        if self.prime is None:
            return ratio_plus(one, other)
        return (one[0] + other[0]) % self.prime, 1

    def minus(self, one, other):
        """Return the difference of two numbers."""
        if self.prime is None:
            return ratio_minus(one, other)
        return (one[0] - other[0]) % self.prime, 1

    def times(self, one, other):
        """Return the product of two numbers."""
        if self.prime is None:
            return ratio_times(one, other)
        return one[0] * other[0] % self.prime, 1

    def over(self, one, other):
        """Return the quotient of two numbers, the second one not 0."""
        if self.prime is None:
            return ratio_over(one, other)
        return one[0] * self._inverses[other[0]] % self.prime, 1

    def negative(self, one):
        """Return the negative of a number."""
        if self.prime is None:
            return ratio_negative(one)
        return -one[0] % self.prime, 1

    def text(self, number):
        """Return the text of a number."""
        return ratio_text(number)

    def parse(self, text):
        """Return the number of the field that has exactly this text."""
        number = parse_ratio(text)
        if not self.holds(number):
            raise BadNumber(text)
        return number


def _inverse_rests(prime):
    # Of prime = times * rest + less only "less" is smaller than rest, and times * rest is -less:
    # so the inverse of rest is -times multiplied by the inverse of less. 0 has none and stays 0.
    inverses = [0, 1]
    for rest in range(2, prime):
        inverses.append(-(prime // rest) * inverses[prime % rest] % prime)
    return tuple(inverses)


def same_field(one, other):
    """Raise MixedFields if two fields are unlike."""
    if one != other:
        raise MixedFields()


def check_row(field, what, row, width):
    """Raise BadRow(what) if a thing is no list or tuple of exactly width numbers of the field."""
    if not field.holds_row(row, width):
        raise BadRow(what)


def holds_rows(field, thing, width, many=None):
    """Return whether thing is a sequence of rows of this width, and of so many where that is told."""
    return is_sequence(thing, many, many) and all([field.holds_row(row, width) for row in thing])
