"""Fits with a plant that agrees, and what agrees with them by sums of the tests' own."""

from fractions import Fraction
from functools import lru_cache
from itertools import combinations
from random import Random

from polyhedra import FAR, dot_of, least_in_box, own_least, solved_square
from sums import FRACTIONS, opened, own_reply, packed_row, plant_of, wholes
from untaughthelm.fits import Fit, Prior
from untaughthelm.plants import Plant
from untaughthelm.records import Record

SMALL_SHAPES = ((1, 1), (1, 2), (2, 1), (1, 3), (3, 1), (2, 2))


# x' = 3/2 x + u, or nearly so.
ROWS = ((wholes(1), wholes(0), ((3, 2),)), (wholes(0), wholes(1), wholes(1)))
RECORD = Record(FRACTIONS, 1, 1, ROWS)


def one_fit(rows, push=(0, 1), priors=(), wrong=0):
    """A Fit of one state and one input; each row is three fractions."""
    told = [tuple(packed_row(FRACTIONS, [part]) for part in row) for row in rows]
    return Fit(Record(FRACTIONS, 1, 1, told), [push], priors, wrong)


def drawn_plant_row(source, width):
    return [Fraction(source.randint(-4, 4), source.choice((1, 1, 2, 3))) for _ in range(width)]


def drawn_fit(seed, size, inputs, many, wrong=0, priors=0):
    """A Fit with so many rows and priors, and a plant that agrees with it."""
    source = Random(seed)
    table = [drawn_plant_row(source, size + inputs) for _ in range(size)]
    plant = plant_of(FRACTIONS, [row[:size] for row in table], [row[size:] for row in table])
    pushes = [Fraction(source.randint(0, 3), source.choice((5, 10))) for _ in range(size)]
    rows = []
    for place in range(many):
        z = [Fraction(source.randint(-3, 3)) for _ in range(size + inputs)]
        if source.randrange(3):
            z = [Fraction(0)] * (size + inputs)
            z[place % (size + inputs)] = Fraction(source.choice((1, 2, 4)))
        y = [dot_of(row, z) + Fraction(source.randint(-2, 2), 2) * push for row, push in zip(table, pushes)]
        if place < wrong and source.randrange(2):
            y = [part + source.randint(1, 3) for part in y]
        rows.append(tuple(packed_row(FRACTIONS, part) for part in (z[:size], z[size:], y)))
    told = []
    for _ in range(priors):
        state = source.randrange(size)
        parts = [Fraction(source.randint(-1, 1)) for _ in range(size + inputs)]
        value = dot_of(table[state], parts)
        low, high = [None if source.randrange(4) == 0 else value + sign * Fraction(source.randint(0, 3), 4)
                     for sign in (-1, 1)]
        told.append(Prior(state, packed_row(FRACTIONS, parts), *[None if end is None else packed_row(FRACTIONS, [end])[0]
                                                                 for end in (low, high)]))
    return Fit(Record(FRACTIONS, size, inputs, rows), packed_row(FRACTIONS, pushes), told, wrong), plant


def calm_fit(size, inputs, wrong):
    """A Fit that leaves little open, with a plant of small numbers.

    There is a row for each unit z, and for each state as many priors as rows may be wrong.
    """
    width = size + inputs
    source = Random(width)
    table = [[Fraction(source.randint(-2, 2), 12) for _ in range(size)] + [Fraction(1, 2)] * inputs for _ in range(size)]
    unit = [[Fraction(int(j == k)) for j in range(width)] for k in range(width)]
    rows = [tuple(packed_row(FRACTIONS, part) for part in (z[:size], z[size:], [dot_of(row, z) for row in table]))
            for z in unit]
    priors = []
    for state in range(size):
        for parts in ([1] * width, [k + 1 for k in range(width)])[:wrong]:
            value = dot_of(table[state], parts)
            ends = packed_row(FRACTIONS, [value - Fraction(1, 50), value + Fraction(1, 50)])
            priors.append(Prior(state, packed_row(FRACTIONS, parts), *ends))
    plant = plant_of(FRACTIONS, [row[:size] for row in table], [row[size:] for row in table])
    return Fit(Record(FRACTIONS, size, inputs, rows), packed_row(FRACTIONS, [Fraction(1, 100)] * size), priors, wrong), plant


@lru_cache(None)
def some_fits():
    """Fits of all small shapes, with few and many rows, priors, and wrong rows, each with a plant that agrees."""
    told = []
    for size, inputs in SMALL_SHAPES:
        for wrong, many, priors in ((0, 0, 0), (0, 2, 0), (0, 2, 3), (0, 4, 1), (0, 6, 0), (0, 6, 6), (1, 1, 1), (1, 3, 2),
                                    (1, 4, 0), (2, 1, 0), (2, 2, 2), (2, 4, 0), (2, 4, 6), (0, 0, 6)):
            told.append(drawn_fit(10 * many + wrong + priors, size, inputs, many, wrong, priors))
        told += [calm_fit(size, inputs, wrong) for wrong in (0, 1, 2)]
    return tuple(told)


def own_lots(fit):
    many = len(fit.record.rows)
    return list(combinations(range(many), min(many, fit.wrong)))


def own_constraints(fit, lot, state):
    """What binds the plant row of the state, as constraints of a program."""
    told = []
    push = Fraction(*fit.pushes[state])
    for place, (x, u, y) in enumerate(fit.record.rows):
        if place not in lot:
            value = Fraction(*y[state])
            told.append((opened(x + u), value + push))
            told.append(([-part for part in opened(x + u)], push - value))
    for prior in fit.priors:
        if prior.state == state:
            if prior.high is not None:
                told.append((opened(prior.parts), Fraction(*prior.high)))
            if prior.low is not None:
                told.append(([-part for part in opened(prior.parts)], -Fraction(*prior.low)))
    return [(packed_row(FRACTIONS, parts), packed_row(FRACTIONS, [end])[0]) for parts, end in told]


def plant_row(plant, state):
    return plant.a[state] + plant.b[state]


def own_agrees(fit, lot, plant):
    for state in range(fit.record.size):
        row = opened(plant_row(plant, state))
        if not all(dot_of(opened(parts), row) <= Fraction(*end) for parts, end in own_constraints(fit, lot, state)):
            return False
    return True


def agreeing_lots(fit, plant):
    return [lot for lot in own_lots(fit) if own_agrees(fit, lot, plant)]


def has_plant(fit, lot):
    """Whether some plant agrees with the lot, by all basic points of each state's plant rows."""
    record = fit.record
    zeros = packed_row(FRACTIONS, [0] * (record.size + record.inputs))
    return all(least_in_box(zeros, own_constraints(fit, lot, state), FAR) is not None for state in range(record.size))


def own_end(fit, state, z):
    """The least value of z times the plant row among all plants that agree; "ever" if there is none."""
    values = [own_least(z, own_constraints(fit, lot, state)) for lot in own_lots(fit) if has_plant(fit, lot)]
    return "ever" if ("ever", None) in values else min(value for _, value in values)


def corner_rows(fit, lot, state):
    """The basic points of the plant rows of a state, as fractions."""
    told = [(opened(parts), Fraction(*end)) for parts, end in own_constraints(fit, lot, state)]
    found = []
    for few in combinations(told, fit.record.size + fit.record.inputs):
        point = solved_square([parts for parts, _ in few], [end for _, end in few])
        if point is not None and all(dot_of(parts, point) <= end for parts, end in told) and point not in found:
            found.append(point)
    return found


def mixed_rows(source, rows):
    weights = [source.randint(0, 3) for _ in rows]
    weights[source.randrange(len(rows))] += 1
    return [sum((Fraction(w, sum(weights)) * row[k] for w, row in zip(weights, rows)), Fraction(0))
            for k in range(len(rows[0]))]


def drawn_agreeing(fit, plant, many, seed):
    """Plants that agree: the one told, and mixtures of basic points for each lot that has any."""
    source = Random(seed)
    told = [plant]
    for lot in own_lots(fit):
        corners = [corner_rows(fit, lot, state) for state in range(fit.record.size)]
        if all(corners):
            for turn in range(many):
                # The basic points themselves, then mixtures of them.
                table = [source.choice(rows) if turn % 2 == 0 else mixed_rows(source, rows) for rows in corners]
                told.append(plant_with(table, fit.record.size))
    return told


def plant_with(table, size):
    return Plant(FRACTIONS, [packed_row(FRACTIONS, row[:size]) for row in table],
                 [packed_row(FRACTIONS, row[size:]) for row in table])


def pushed(plant, x, u, push):
    return tuple(FRACTIONS.plus(a, b) for a, b in zip(own_reply(plant, x, u), push))
