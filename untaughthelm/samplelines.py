"""Lines: the output of a plant whose state is not seen, told from its last outputs and inputs."""

from untaughthelm.errors import BadLine, BadRow, BadSamples
from untaughthelm.fields import holds_rows
from untaughthelm.plants import Plant
from untaughthelm.polynomials import common_divisor, trimmed
from untaughthelm.ratios import ONE, is_sequence
from untaughthelm.rows import as_table, dot, row_of_rows, turned, unit_row, zero_row

MOST_SAMPLES = 60


class Line:
    """An output is the sum of outs times the last outputs and of ins times the last inputs, the latest first."""

    def __init__(self, field, outs, ins):
        if not is_sequence(outs, 1, 4) or not field.holds_row(outs, len(outs)):
            raise BadLine("outs")
        if not is_sequence(ins, len(outs), len(outs)) or not is_sequence(ins[0], 1, 3):
            raise BadLine("ins")
        if not holds_rows(field, ins, len(ins[0])):
            raise BadLine("ins")
        self.field = field
        self.outs = tuple(outs)
        self.ins = as_table(ins)
        self.size = len(outs)
        self.inputs = len(ins[0])

    def __eq__(self, other):
        return (isinstance(other, Line) and self.field == other.field and self.outs == other.outs
                and self.ins == other.ins)

    def common_part(self):
        """Return the common divisor of the polynomials of the outputs and of the inputs."""
        polys = [tuple([self.field.negative(number) for number in self.outs[::-1]]) + (ONE,)]
        polys.extend([trimmed(column) for column in turned(self.ins[::-1])])
        return common_divisor(self.field, polys)

    def plant(self):
        """Return the plant that moves the own state."""
        rows = []
        for place, number in enumerate(self.outs):
            # The first column is the output's; each cell but the last one gets the next cell, too.
            following = unit_row(self.size, place + 1) if place + 1 < self.size else zero_row(self.size)
            rows.append((number,) + following[1:])
        return Plant(self.field, rows, self.ins)

    def own_state(self, samples):
        """Return the own state at the tick behind the samples."""
        check_samples(self.field, self.inputs, samples)
        if len(samples) < self.size:
            raise BadSamples("few")
        row = memory(self.size, samples)
        outputs = row[:self.size]
        puts = row[self.size:]
        # A cell is what these samples add to the output so many ticks ahead: the numbers of the
        # line that come before meet later samples, and dot ends where the line does.
        return tuple([self.field.plus(dot(self.field, self.outs[place:], outputs),
                                      dot(self.field, row_of_rows(self.ins[place:]), puts))
                      for place in range(self.size)])

    def outputs(self, start, puts):
        """Return the outputs from an own state on, one more than there are puts."""
        return tuple([state[0] for state in self.plant().run(start, puts)])

    def misses(self, samples):
        """Return the ticks whose output is not what the line tells from the samples before."""
        check_samples(self.field, self.inputs, samples)
        row = self.outs + row_of_rows(self.ins)
        return tuple([tick for tick in range(self.size, len(samples))
                      if dot(self.field, row, memory(self.size, samples[:tick])) != samples[tick][0]])


def memory(size, samples):
    """Return the last outputs behind the samples, then the last inputs, the latest first."""
    last = samples[:-size - 1:-1]
    return tuple([output for output, put in last]) + row_of_rows([put for output, put in last])


def check_samples(field, inputs, samples):
    """Raise an error if these are no samples: couples of an output and an input."""
    if not is_sequence(samples, 0, MOST_SAMPLES):
        raise BadSamples("many")
    for sample in samples:
        if not (is_sequence(sample, 2, 2) and field.holds(sample[0]) and field.holds_row(sample[1], inputs)):
            raise BadRow("samples")
