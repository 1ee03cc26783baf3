"""Plants of each class: controllable ones whose B has at least the rank of the class."""

from functools import lru_cache
from random import Random

from measured import SHAPES
from sums import is_controllable, packed, rank_in, sum_in
from untaughthelm.plants import Plant


def drawn_row(field, source, width):
    return tuple(packed(field, source.randint(-3, 3)) for _ in range(width))


def rank_of_b(plant):
    return rank_in(plant.field, plant.b)


def drawn_plant(field, size, inputs, rank, seed):
    """A controllable plant whose B has exactly this rank, None if none is found soon."""
    source = Random(seed)
    for _ in range(300):
        left = [drawn_row(field, source, rank) for _ in range(size)]
        right = [drawn_row(field, source, inputs) for _ in range(rank)]
        b = [sum_in(field, row, right, inputs) for row in left]
        plant = Plant(field, [drawn_row(field, source, size) for _ in range(size)], b)
        if rank_of_b(plant) == rank and is_controllable(plant):
            return plant
    return None


@lru_cache(None)
def plants_of_classes(prime, field_of):
    """Couples of a class and a plant of it, for all sizes, numbers of inputs and classes."""
    field = field_of(prime)
    told = []
    for size, inputs in SHAPES:
        for rank in range(1, min(size, inputs) + 1):
            for exact in sorted({rank, min(size, inputs)}):
                plant = drawn_plant(field, size, inputs, exact, 10 * size + inputs)
                if plant is not None:
                    told.append((rank, plant))
    return tuple(told)
