"""Linear programs worked out by all basic points, and their certificates by sums of the tests' own."""

from fractions import Fraction
from itertools import combinations
from random import Random

from sums import FRACTIONS, opened, packed_row

# Far beyond every basic point of the programs of the tests.
FAR = 10 ** 9


def program(costs, constraints):
    """A program of numbers of the fractions from one of whole numbers and fractions."""
    return packed_row(FRACTIONS, costs), [(packed_row(FRACTIONS, parts), packed_row(FRACTIONS, [end])[0])
                                          for parts, end in constraints]


def drawn_program(seed, width, many, most=3, bottoms=(1, 1, 2)):
    source = Random(seed)

    def number():
        return Fraction(source.randint(-most, most), source.choice(bottoms))

    kind = source.randrange(4)
    costs = [0 if kind == 0 else number() for _ in range(width)]
    constraints = []
    for _ in range(many):
        parts = [number() for _ in range(width)]
        if source.randrange(6) == 0 and constraints:
            parts = source.choice(constraints)[0]
        constraints.append((parts, abs(number()) if kind in (0, 1) else number()))
    return program(costs, constraints)


def dot_of(one, other):
    return sum((a * b for a, b in zip(one, other)), Fraction(0))


def solved_square(rows, ends):
    """The one point of as many equations as unknowns, None if there is none or several."""
    left = [list(row) + [end] for row, end in zip(rows, ends)]
    width = len(rows)
    for place in range(width):
        lead = next((k for k in range(place, width) if left[k][place]), None)
        if lead is None:
            return None
        left[place], left[lead] = left[lead], left[place]
        left[place] = [number / left[place][place] for number in left[place]]
        for k in range(width):
            if k != place:
                factor = left[k][place]
                left[k] = [a - factor * b for a, b in zip(left[k], left[place])]
    return [row[width] for row in left]


def least_in_box(costs, constraints, far):
    """The least costs of all basic points within a large box, None if no point keeps the constraints."""
    width = len(costs)
    unit = [[Fraction(int(j == k)) for j in range(width)] for k in range(width)]
    told = [(opened(parts), Fraction(*end)) for parts, end in constraints]
    told += [(row, Fraction(far)) for row in unit] + [([-n for n in row], Fraction(far)) for row in unit]
    least = None
    for lot in combinations(told, width):
        point = solved_square([parts for parts, _ in lot], [end for _, end in lot])
        if point is not None and all(dot_of(parts, point) <= end for parts, end in told):
            value = dot_of(opened(costs), point)
            least = value if least is None else min(least, value)
    return least


def own_least(costs, constraints):
    """("none", None), ("ever", None) or ("least", value), by all basic points within boxes of two sizes."""
    least = least_in_box(costs, constraints, FAR)
    if least is None:
        return "none", None
    if least_in_box(costs, constraints, 2 * FAR) != least:
        return "ever", None
    return "least", least


def sums_of(weights, constraints, width):
    """The sums of weights times parts and of weights times ends."""
    told = opened(weights)
    parts = [sum((w * Fraction(*row[k]) for w, (row, _) in zip(told, constraints)), Fraction(0)) for k in range(width)]
    return parts, sum((w * Fraction(*end) for w, (_, end) in zip(told, constraints)), Fraction(0))


def keeps_all(point, constraints):
    return all(dot_of(opened(parts), opened(point)) <= Fraction(*end) for parts, end in constraints)


def many_above(weights):
    return sum(1 for top, _ in weights if top > 0)


def none_below(weights):
    return all(top >= 0 for top, _ in weights)
