"""Lines and their samples, by sums of the tests' own."""

from linear import solved
from measured import SHAPES
from sums import dots, packed_row, value_table, values
from untaughthelm.samplelines import Line

ZERO = (0, 1)


def some_lines(field):
    for seed, (size, inputs) in enumerate(SHAPES):
        outs = packed_row(field, values(seed, size, field))
        yield Line(field, outs, [packed_row(field, row) for row in value_table(seed + 50, size, inputs, field)])


def lame_lines(field):
    """Lines with a common part: no input, or inputs that never meet all outputs, or factors that are shared."""
    for size in (1, 2, 3, 4):
        outs = packed_row(field, [2, 1, -1, 3][:size])
        yield Line(field, outs, [packed_row(field, [0])] * size)
        yield Line(field, packed_row(field, [0] * size), [packed_row(field, [0, 0])] * size)
        yield Line(field, outs[:-1] + (ZERO,), [packed_row(field, [1, 2])] * (size - 1) + [packed_row(field, [0, 0])])
    # (z - 1)(z - 2) over (z - 1).
    yield Line(field, packed_row(field, [3, -2]), [packed_row(field, [1]), packed_row(field, [-1])])


def own_memory(size, samples):
    last = list(reversed(samples[len(samples) - size:]))
    return tuple(y for y, u in last) + tuple(number for y, u in last for number in u)


def own_next(line, samples):
    row = tuple(line.outs) + tuple(number for row in line.ins for number in row)
    return dots(line.field, row, own_memory(line.size, samples))


def own_samples(line, first, puts):
    """The samples of a line from its first outputs on, by these inputs."""
    samples = []
    for tick, put in enumerate(puts):
        samples.append((first[tick] if tick < line.size else own_next(line, samples), tuple(put)))
    return samples


def own_rows(size, samples):
    """What binds a line: memories and the outputs behind them."""
    return [(own_memory(size, samples[:tick]), samples[tick][0]) for tick in range(size, len(samples))]


def own_state(line, samples):
    """s_i is the sum of outs[j] y(T - 1 - j + i) + ins[j] u(T - 1 - j + i) over j from i on."""
    state = []
    for i in range(line.size):
        left, right = [], []
        for j in range(i, line.size):
            y, u = samples[len(samples) - 1 - j + i]
            left += [line.outs[j], *line.ins[j]]
            right += [y, *u]
        state.append(dots(line.field, left, right))
    return tuple(state)


def own_line(field, size, inputs, rows):
    """The line with zeros at its free numbers that rows bind, None if they bind none."""
    width = size + size * inputs
    told = solved(field, [row for row, _ in rows], [output for _, output in rows]) if rows else (ZERO,) * width
    if told is None:
        return None
    return Line(field, told[:size], [told[at:at + inputs] for at in range(size, width, inputs)])
