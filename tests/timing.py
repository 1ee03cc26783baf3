"""A limit of time for each call, and kinds of numbers."""

import unittest
from time import perf_counter

from sums import FRACTIONS
from untaughthelm.fields import Field

# Here each call takes a small part of a second.
MOST_SECONDS = 10


def small_fraction(source):
    return FRACTIONS.number(source.randint(-9, 9), source.randint(1, 9))


def long_whole(source):
    return source.randint(-10 ** 30 + 1, 10 ** 30 - 1), 1


def rest_of(field):
    return lambda source: (source.randrange(field.prime), 1)


KINDS = ((FRACTIONS, small_fraction), (FRACTIONS, long_whole), (Field(2), rest_of(Field(2))),
         (Field(97), rest_of(Field(97))))


class Timed(unittest.TestCase):
    def timed(self, call, *things):
        began = perf_counter()
        told = call(*things)
        self.assertLess(perf_counter() - began, MOST_SECONDS, call)
        return told
