"""Rows that a program has kept of a plant, and what they tell, by sums of the tests' own."""

from functools import lru_cache

from linear import weights_in
from measured import measured_rows, some_plants
from sums import SMALL_FIELDS, echelon_of, lies_in, own_reply, packed_row, sum_in, values
from untaughthelm.asking import Asker
from untaughthelm.rows import unit_row, unit_table, zero_row


def z_of(row):
    return tuple(row[0]) + tuple(row[1])


def new_rows(field, rows):
    """Those of some rows whose z are new beside the ones before."""
    kept = []
    for row in rows:
        if any(top for top, _ in z_of(row)) and not lies_in(field, [z_of(other) for other in kept], z_of(row)):
            kept.append(row)
    return kept


def kept_of(plant, seed):
    """Rows of a plant with new z: none, some, and all that there are."""
    rows = new_rows(plant.field, measured_rows(plant, 14, seed) + unit_rows(plant))
    yield ()
    for many in (1, 2, plant.size, plant.size + 1, len(rows)):
        if many <= len(rows):
            yield tuple(rows[:many])
    yield tuple(unit_rows(plant)[plant.size:])
    yield tuple(unit_rows(plant)[1:])
    yield tuple(unit_rows(plant)[:-1])


def unit_rows(plant):
    zeros = (zero_row(plant.size), zero_row(plant.inputs))
    rows = [(x, zeros[1]) for x in unit_table(plant.size)] + [(zeros[0], u) for u in unit_table(plant.inputs)]
    return [(x, u, own_reply(plant, x, u)) for x, u in rows]


@lru_cache(None)
def askers():
    """Plants with askers that have kept rows of theirs."""
    return tuple((plant, kept, Asker(field, plant.size, plant.inputs, kept))
                 for field in SMALL_FIELDS
                 for seed, plant in enumerate(some_plants(field))
                 for kept in kept_of(plant, seed))


def own_known_reply(field, kept, x, u):
    weights = weights_in(field, [z_of(row) for row in kept], tuple(x) + tuple(u))
    return None if weights is None else sum_in(field, weights, [y for _, _, y in kept], len(x))


def questions(plant, kept):
    """States and inputs of which some are known: sums of kept rows, zeros, unit rows and drawn ones."""
    field, size, width = plant.field, plant.size, plant.size + plant.inputs
    zs = [zero_row(width), unit_row(width, 0), unit_row(width, width - 1), packed_row(field, values(9, width, field))]
    if kept:
        zs += [z_of(kept[-1]), sum_in(field, packed_row(field, values(3, len(kept), field)), map(z_of, kept), width)]
    return [(z[:size], z[size:]) for z in zs]


def own_closed(field, inputs, kept, x):
    size = len(x)
    space = ()
    added = [x] + [own_known_reply(field, kept, zero_row(size), u) for u in unit_table(inputs)]
    while None not in added:
        larger = echelon_of(field, list(space) + added)
        if larger == space:
            return space
        space = larger
        added = [own_known_reply(field, kept, state, zero_row(inputs)) for state in space]
    return None
