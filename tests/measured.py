"""Records of plants, and small records with all plants that fit them."""

from functools import lru_cache
from random import Random

from sums import fitting, own_reply, packed_row, plant_of, sum_in, value_table, values
from untaughthelm.fields import Field
from untaughthelm.records import Record
from untaughthelm.rows import zero_row

SHAPES = tuple((size, inputs) for size in (1, 2, 3, 4) for inputs in (1, 2, 3))


def some_plants(field):
    for size, inputs in SHAPES:
        yield plant_of(field, value_table(3, size, size, field), value_table(4, size, inputs, field))


def measured_rows(plant, many, seed):
    """Rows of a plant; some have a z of zeros, or are equal to, or sums of, rows before them."""
    field, source = plant.field, Random(seed)
    width = plant.size + plant.inputs
    zs = []
    for k in range(many):
        kind = source.randrange(6)
        if kind == 0:
            zs.append(zero_row(width))
        elif kind == 1 and zs:
            zs.append(source.choice(zs))
        elif kind == 2 and zs:
            factors = packed_row(field, values(seed + k, len(zs), field))
            zs.append(sum_in(field, factors, zs, width))
        else:
            zs.append(packed_row(field, values(seed * 40 + k, width, field)))
    return [(z[:plant.size], z[plant.size:], own_reply(plant, z[:plant.size], z[plant.size:])) for z in zs]


def record_of(plant, many, seed):
    """A record of a plant; every third row is a sum of those before it, or zeros."""
    field, width = plant.field, plant.size + plant.inputs
    zs = []
    for k in range(many):
        if k % 3 == 2:
            zs.append(sum_in(field, packed_row(field, values(seed + k, k, field)), zs, width))
        else:
            zs.append(packed_row(field, values(seed * 50 + k, width, field)))
    return Record(field, plant.size, plant.inputs,
                  [(z[:plant.size], z[plant.size:], own_reply(plant, z[:plant.size], z[plant.size:])) for z in zs])


@lru_cache
def counted_records():
    """Small records by rests that some plant fits, of few rows and of many, with all plants that fit them."""
    source = Random(8)
    told = []
    for prime, size, inputs, times in ((2, 1, 1, 20), (3, 1, 1, 25), (3, 1, 2, 20), (2, 2, 1, 40), (2, 2, 2, 20),
                                       (2, 1, 3, 12), (3, 2, 1, 25)):
        for _ in range(times):
            rows = []
            for _ in range(source.randrange(5)):
                x, u, y = [tuple((source.randrange(prime), 1) for _ in range(width)) for width in (size, inputs, size)]
                rows.append((x, u, y))
            record = Record(Field(prime), size, inputs, rows)
            fits = fitting(record)
            if fits:
                told.append((record, tuple(fits)))
    return tuple(told)
