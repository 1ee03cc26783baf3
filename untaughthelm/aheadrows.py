"""Inputs that are written ahead: whether they tell every controllable plant, and which plants they leave alike."""

from untaughthelm.errors import BadAhead, BadRow
from untaughthelm.fields import holds_rows, same_field
from untaughthelm.plants import Plant
from untaughthelm.polynomials import common_divisor, poly_plus, trimmed
from untaughthelm.ratios import ONE, ZERO, is_sequence, is_whole
from untaughthelm.reaches import uncontrolled
from untaughthelm.rows import as_table, dot, row_minus, row_of_rows, row_times, turned, unit_row, zero_row
from untaughthelm.spans import Span, first_new

_MOST_PUTS = 60


class Unlearnt:
    """A plant and another one with the same states from the same start, by the same inputs.

    silent is a row that is 0 on the states and inputs of all ticks.
    """

    def __init__(self, plant, start, silent, other):
        self.plant = plant
        self.start = start
        self.silent = silent
        self.other = other

    def __eq__(self, other):
        return (isinstance(other, Unlearnt) and self.plant == other.plant and self.start == other.start
                and self.silent == other.silent and self.other == other.other)


def least_length(size, inputs):
    """Return how many inputs are needed that any be deep to size + 1."""
    return size * inputs + size + inputs


def deep_rank(field, inputs, puts, depth):
    """Return the rank of all windows of this depth."""
    _check_inputs(inputs)
    _check_puts(field, inputs, puts)
    if not is_whole(depth, 1, 8):
        raise BadAhead("depth")
    return Span(field, depth * inputs, _windows(puts, depth)).rank


def made_row(field, size, inputs):
    """Return the least number of inputs that are deep to size + 1: each unit input once, apart from each other."""
    _check_size(size)
    _check_inputs(inputs)
    places = {size + place * (size + 1): place for place in range(inputs)}
    return tuple([unit_row(inputs, places[tick]) if tick in places else zero_row(inputs)
                  for tick in range(least_length(size, inputs))])


def finished_row(field, size, inputs, puts):
    """Return the inputs with the least number of others behind them that makes them deep to size + 1."""
    _check_size(size)
    _check_inputs(inputs)
    _check_puts(field, inputs, puts)
    row = list(as_table(puts))
    while len(row) < size:
        row.append(zero_row(inputs))
    span = Span(field, (size + 1) * inputs, _windows(row, size + 1))
    while span.rank < span.width:
        before = row_of_rows(row[-size:])
        # As long as the rank is not full, one of these inputs is sure to add to it.
        put = first_new(span, inputs, before)
        span = span.with_row(before + put)
        row.append(put)
    return tuple(row)


def deep_weights(field, size, inputs, puts):
    """Return None if the inputs are deep to size + 1, otherwise size + 1 rows that add up to 0 on each window."""
    _check_size(size)
    _check_inputs(inputs)
    _check_puts(field, inputs, puts)
    width = (size + 1) * inputs
    silent = Span(field, width, _windows(puts, size + 1)).silent_rows()
    if silent == ():
        return None
    return tuple([silent[0][at:at + inputs] for at in range(0, width, inputs)])


def unlearnt(field, size, inputs, puts):
    """Return None if the inputs are deep to size + 1, otherwise an Unlearnt: two plants that they do not tell apart."""
    weights = deep_weights(field, size, inputs, puts)
    if weights is None:
        return None
    divisor = common_divisor(field, [trimmed(column) for column in turned(weights)])
    # No polynomial that divides the inputs' ones divides this one, too, as it is a multiple plus 1.
    monic = poly_plus(field, zero_row(size + 1 - len(divisor)) + divisor, (ONE,))
    # So is a multiple less 1, and that is another one but by the prime 2.
    less = field.number(1 if field.prime == 2 else 2)
    other = (field.minus(monic[0], less),) + monic[1:]
    silent = unit_row(size, size - 1) + weights[size]
    return Unlearnt(_chain(field, weights, monic), _silent_start(field, weights, puts), silent,
                    _chain(field, weights, other))


def unlearnt_fault(field, size, inputs, puts, told):
    """Return None if an Unlearnt is right, otherwise the first word that applies."""
    same_field(field, told.plant.field)
    same_field(field, told.other.field)
    _check_size(size)
    _check_inputs(inputs)
    _check_puts(field, inputs, puts)
    if not _has_sizes(told.plant, size, inputs) or uncontrolled(told.plant) is not None:
        return "plant"
    if not field.holds_row(told.start, size):
        return "start"
    states = told.plant.run(told.start, puts)
    if not _is_silent(field, size, inputs, told.silent, list(zip(states, puts))):
        return "silent"
    if not _has_sizes(told.other, size, inputs) or told.other == told.plant:
        return "other"
    if told.other.run(told.start, puts) != states:
        return "other"
    return "other" if field.prime != 2 and uncontrolled(told.other) is not None else None


def _check_size(size):
    if not is_whole(size, 1, 4):
        raise BadAhead("size")


def _check_inputs(inputs):
    if not is_whole(inputs, 1, 3):
        raise BadAhead("inputs")


def _check_puts(field, inputs, puts):
    if not is_sequence(puts, 0, _MOST_PUTS):
        raise BadAhead("puts")
    if not holds_rows(field, puts, inputs):
        raise BadRow("puts")


def _windows(puts, depth):
    return [row_of_rows(puts[tick:tick + depth]) for tick in range(len(puts) - depth + 1)]


def _chain(field, weights, monic):
    # A chain of cells: each gets the one before it and its weights of the input, less its number
    # of the monic polynomial times y, the last cell plus the last weights of the input.
    size = len(weights) - 1
    a = []
    b = []
    for cell in range(size):
        before = zero_row(size) if cell == 0 else unit_row(size, cell - 1)
        a.append(row_minus(field, before, zero_row(size - 1) + (monic[cell],)))
        b.append(row_minus(field, weights[cell], row_times(field, monic[cell], weights[size])))
    return Plant(field, a, b)


def _silent_start(field, weights, puts):
    # The start from which y is 0 at each tick, so that nothing is fed back.
    size = len(weights) - 1
    start = []
    for ahead in reversed(range(size)):
        cell = ZERO
        for tick, put in enumerate(puts[:ahead + 1]):
            cell = field.minus(cell, dot(field, weights[size - ahead + tick], put))
        start.append(cell)
    return tuple(start)


def _has_sizes(plant, size, inputs):
    return plant.size == size and plant.inputs == inputs


def _is_silent(field, size, inputs, silent, ticks):
    if not field.holds_row(silent, size + inputs) or tuple(silent[:size]) == zero_row(size):
        return False
    return all([dot(field, silent, x + tuple(u)) == ZERO for x, u in ticks])
