"""Sums done without the package, and things that several tests need."""

from fractions import Fraction
from functools import lru_cache
from itertools import product
from random import Random

from untaughthelm.fields import Field
from untaughthelm.plants import Plant

PRIMES = (2, 3, 5, 7, 11, 13, 17, 19, 23, 29, 31, 37, 41, 43, 47, 53, 59, 61, 67, 71, 73, 79, 83, 89, 97)

FRACTIONS = Field()
FIELDS = (FRACTIONS, Field(2), Field(3), Field(7), Field(97))
SMALL_FIELDS = (FRACTIONS, Field(2), Field(3), Field(5), Field(7))

# Things that are no row of two numbers of the fractions.
NO_ROWS = (None, 3, "ab", {(1, 1): 1, (0, 1): 2}, {(1, 1), (0, 1)}, (1, 1), [(1, 1), None], [(1, 1), [1, 1]],
           [(1, 1), (2, 4)], [(1, 1), (1, 0)], ((True, 1), (1, 1)), ((1, 1),), ((1, 1),) * 3, ())


def packed(field, value):
    """The number of the field that a fraction stands for."""
    value = Fraction(value)
    if field.prime is None:
        return value.numerator, value.denominator
    return value.numerator * pow(value.denominator, -1, field.prime) % field.prime, 1


def packed_row(field, values):
    return tuple(packed(field, value) for value in values)


def packed_table(field, rows):
    return tuple(packed_row(field, row) for row in rows)


def wholes(*values):
    """A row of whole numbers, as it stands in the fractions and by every prime above them."""
    return tuple((value, 1) for value in values)


def opened(row):
    """The fractions of a row of numbers, with which sums can be done."""
    return [Fraction(top, bottom) for top, bottom in row]


def times_column(table, row):
    return [sum((a * b for a, b in zip(line, row)), Fraction(0)) for line in table]


def product_of(one, other):
    return [[sum((row[k] * other[k][j] for k in range(len(other))), Fraction(0)) for j in range(len(other[0]))]
            for row in one]


def sum_of(one, other):
    return [[a + b for a, b in zip(left, right)] for left, right in zip(one, other)]


def values(seed, many, field):
    """Some fractions that stand for numbers of the field: their bottoms are not 0 in it."""
    source = Random(seed)
    bottoms = [b for b in (1, 1, 1, 2, 3, 5) if field.prime is None or b % field.prime]
    return [Fraction(source.randint(-9, 9), source.choice(bottoms)) for _ in range(many)]


def value_table(seed, many, width, field):
    told = values(seed, many * width, field)
    return [told[k * width:(k + 1) * width] for k in range(many)]


def lists(thing):
    """The same rows as lists; numbers stay tuples."""
    if isinstance(thing, (list, tuple)) and not (len(thing) == 2 and isinstance(thing[0], int)):
        return [lists(part) for part in thing]
    return thing


def all_sums(prime, width, rows):
    """All sums of multiples of rows by a small prime, counted out one by one."""
    found = set()
    for factors in product(range(prime), repeat=len(rows)):
        found.add(tuple(sum(f * row[k][0] for f, row in zip(factors, rows)) % prime for k in range(width)))
    return {tuple((part, 1) for part in row) for row in found}


def all_rows(prime, width):
    """All rows of rests of this width."""
    return [tuple((part, 1) for part in row) for row in product(range(prime), repeat=width)]


def raised(call, *args, **named):
    """The class and the attributes of what a call raises; None if it raises nothing."""
    try:
        call(*args, **named)
    except ValueError as error:
        return type(error), tuple(value for name, value in sorted(vars(error).items()) if name != "told")
    return None


def all_tuples(thing):
    """Whether a thing, and all things within it, are tuples and whole numbers."""
    if isinstance(thing, tuple):
        return all(all_tuples(part) for part in thing)
    return isinstance(thing, int)


def echelon_of(field, rows):
    """The reduced echelon rows of rows of numbers, by an elimination of the tests' own."""
    prime = field.prime
    left = [[Fraction(*part) if prime is None else part[0] for part in row] for row in rows]
    done = []
    for place in range(len(left[0]) if left else 0):
        found = next((row for row in left if row[place]), None)
        if found is not None:
            scale = 1 / found[place] if prime is None else pow(found[place], -1, prime)
            lead = [scale * part if prime is None else scale * part % prime for part in found]

            def cleared(row):
                factor = row[place]
                less = [a - factor * b for a, b in zip(row, lead)]
                return less if prime is None else [part % prime for part in less]

            left = [cleared(row) for row in left if row is not found]
            done = [cleared(row) for row in done] + [lead]
    return tuple(packed_row(field, row) for row in done)


def rank_in(field, rows):
    return len(echelon_of(field, rows))


def lies_in(field, space, row):
    """Whether a row is a sum of multiples of some rows."""
    return rank_in(field, list(space) + [row]) == rank_in(field, space)


def dots(field, one, other):
    """The sum of the products of two rows of numbers."""
    return packed(field, sum((a * b for a, b in zip(opened(one), opened(other))), Fraction(0)))


def sum_in(field, factors, rows, width):
    """The sum of rows of numbers, each times its factor; none is needed."""
    total = [Fraction(0)] * width
    for factor, row in zip(factors, rows):
        total = [part + Fraction(*factor) * Fraction(*number) for part, number in zip(total, row)]
    return packed_row(field, total)


def product_in(field, one, other, width):
    """The product of two tables of numbers, the second one of this width."""
    return tuple(sum_in(field, row, other, width) for row in one)


def own_reply(plant, x, u):
    """The reply of a plant, without the package's own sums."""
    prime = plant.field.prime
    lines = [a + b for a, b in zip(plant.a, plant.b)]
    z = tuple(x) + tuple(u)
    if prime is None:
        return packed_row(plant.field, times_column([opened(line) for line in lines], opened(z)))
    return tuple((sum(a[0] * b[0] for a, b in zip(line, z)) % prime, 1) for line in lines)


def own_run(plant, start, puts):
    states = [tuple(start)]
    for put in puts:
        states.append(own_reply(plant, states[-1], put))
    return states


def plant_of(field, a, b):
    """The plant of tables of fractions."""
    return Plant(field, packed_table(field, a), packed_table(field, b))


def varied_plants(field):
    """Plants that are controllable, that no input moves in part, whose A has a power that is 0, or no inverse."""
    for size in (1, 2, 3, 4):
        for inputs in (1, 2, 3):
            yield plant_of(field, value_table(size, size, size, field), value_table(inputs, size, inputs, field))
        shift = [[int(j == k - 1) for j in range(size)] for k in range(size)]
        unit = [[int(j == k) for j in range(size)] for k in range(size)]
        first, last = [[int(k == 0)] for k in range(size)], [[int(k == size - 1)] for k in range(size)]
        yield plant_of(field, shift, first)
        yield plant_of(field, shift, last)
        yield plant_of(field, [row[::-1] for row in shift], [row * 2 for row in last])
        yield plant_of(field, unit, first)
        yield plant_of(field, unit, [[0, 0]] * size)
        yield plant_of(field, [[0] * size] * size, unit if size < 4 else last)
        yield plant_of(field, [[k + 1] * size for k in range(size)], last)
        # The inputs that move anything come last, and each tick of the first ones adds one state to what they reach.
        yield plant_of(field, [shift[0][:-1] + [1]] + shift[1:], [[0, 0] + row for row in first])
    yield plant_of(field, [[1, 1, 0], [0, 1, 0], [0, 0, 3]], [[0], [1], [0]])
    yield plant_of(field, [[1, 1, 0, 1], [1, 0, 0, 1], [0, 0, 0, 1], [0, 0, 0, 0]], [[1, 2], [0, 1], [0, 0], [0, 0]])
    yield plant_of(field, [[0, 0, 0, 0], [1, 0, 0, 0], [0, 0, 1, 1], [0, 0, 0, 2]], [[1], [0], [0], [1]])
    yield plant_of(field, [[0, 1, 0, 0], [0, 0, 0, 0], [0, 0, 1, 1], [0, 0, 1, 0]], [[0], [1], [0], [1]])


@lru_cache
def all_plants(prime, size, inputs):
    """All plants of this size by a small prime."""
    field = Field(prime)
    lines = all_rows(prime, size + inputs)
    return tuple(Plant(field, [line[:size] for line in table], [line[size:] for line in table])
                 for table in product(lines, repeat=size))


def fitting(record):
    """All plants that fit a record by a small prime."""
    return [plant for plant in all_plants(record.field.prime, record.size, record.inputs)
            if all(own_reply(plant, x, u) == y for x, u, y in record.rows)]


def is_controllable(plant):
    """Whether A and B reach all states, by an elimination of the tests' own."""
    columns = [tuple(line[k] for line in plant.b) for k in range(plant.inputs)]
    blocks = list(columns)
    for _ in range(plant.size - 1):
        columns = [own_reply(plant, column, ((0, 1),) * plant.inputs) for column in columns]
        blocks += columns
    return rank_in(plant.field, blocks) == plant.size
