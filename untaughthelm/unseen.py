"""A program that sees outputs alone, learns their line and brings its own state to zero."""

from untaughthelm.errors import BadRow, BadSamples, Quarrel
from untaughthelm.ratios import ONE, is_whole
from untaughthelm.reaches import puts_to
from untaughthelm.rows import dot, row_of_rows, row_plus, unit_table, zero_row
from untaughthelm.samplelines import MOST_SAMPLES, Line, check_samples, memory
from untaughthelm.spans import Span, first_new


class UnseenAsker:
    """The samples of a line that nobody knows, and the last choice of an input."""

    def __init__(self, field, size, inputs, samples=()):
        _check_all(field, size, inputs, samples)
        self.field = field
        self.size = size
        self.inputs = inputs
        self._stand(None, _copied(samples), _span_of_memories(field, size, inputs, samples))

    def __eq__(self, other):
        return (isinstance(other, UnseenAsker) and self.field == other.field and self.size == other.size
                and self.inputs == other.inputs and self.samples == other.samples and self.choice == other.choice)

    def hear(self, y):
        """Return the UnseenAsker that has got the output y and chosen the input of its tick."""
        if len(self.samples) == MOST_SAMPLES:
            raise BadSamples("many")
        if not self.field.holds(y):
            raise BadRow("y")
        span = self._span
        if len(self.samples) >= self.size:
            row = memory(self.size, self.samples)
            span = _with_memory(span, row, _bound_outputs(self.size, self.samples) + [y])
        choice = self._choose(y, span)
        heard = UnseenAsker(self.field, self.size, self.inputs)
        heard._stand(choice, self.samples + ((y, choice[1]),), span)
        return heard

    def line(self):
        """Return the one line that fits the samples, None if there are several."""
        if self.rank < self._span.width:
            return None
        return self._told_line(self._span, _bound_outputs(self.size, self.samples))

    def _stand(self, choice, samples, span):
        # The span holds the memories of the samples' rows.
        self.choice = choice
        self.samples = samples
        self.rank = span.rank
        self._span = span

    def _choose(self, y, span):
        if span.rank == span.width:
            return self._lead(self._told_line(span, _bound_outputs(self.size, self.samples) + [y]))
        if len(self.samples) + 1 < self.size:
            return "ask", zero_row(self.inputs)
        row = memory(self.size, self.samples + ((y, zero_row(self.inputs)),))
        put = first_new(span, self.inputs, row[:self.size], row[self.size + self.inputs:])
        return ("stuck", zero_row(self.inputs)) if put is None else ("ask", put)

    def _lead(self, line):
        state = line.own_state(self.samples)
        goal = zero_row(self.size)
        if state == goal:
            return "rest", zero_row(self.inputs)
        plant = line.plant()
        for ticks in range(1, self.size + 1):
            puts = puts_to(plant, state, goal, ticks)
            if puts is not None:
                return "way", puts[0]
        return "never", zero_row(self.inputs)

    def _told_line(self, span, outputs):
        # The line tells a sum of memories the same sum of outputs, a unit row its own number.
        told = [dot(self.field, span.weights(row), outputs) for row in unit_table(span.width)]
        return _line_of_row(self.field, self.size, told)


def next_output(field, size, inputs, samples):
    """Return the output behind the samples if all lines that fit them tell the same one, else None."""
    _check_all(field, size, inputs, samples)
    span = _span_of_memories(field, size, inputs, samples)
    if len(samples) < size:
        return None
    weights = span.weights(memory(size, samples))
    return None if weights is None else dot(field, weights, _bound_outputs(size, samples))


def twin_line(line, samples):
    """Return None if no other line fits the samples, otherwise another one."""
    check_samples(line.field, line.inputs, samples)
    if len(samples) < line.size:
        raise BadSamples("few")
    if line.misses(samples) != ():
        raise BadSamples("line")
    silent = _span_of_memories(line.field, line.size, line.inputs, samples).silent_rows()
    if silent == ():
        return None
    other = _line_plus(line, silent[0])
    if line.field.prime is None and line.common_part() == (ONE,):
        # Only few multiples of the row leave a common part.
        while other.common_part() != (ONE,):
            other = _line_plus(other, silent[0])
    return other


def _check_all(field, size, inputs, samples):
    if not is_whole(size, 1, 4):
        raise BadSamples("size")
    if not is_whole(inputs, 1, 3):
        raise BadSamples("inputs")
    check_samples(field, inputs, samples)


def _copied(samples):
    return tuple([(y, tuple(u)) for y, u in samples])


def _bound_outputs(size, samples):
    # The outputs that bind a line: each with the memory behind the samples before it.
    return [y for y, u in samples[size:]]


def _span_of_memories(field, size, inputs, samples):
    outputs = _bound_outputs(size, samples)
    span = Span(field, size + size * inputs)
    for place in range(len(outputs)):
        span = _with_memory(span, memory(size, samples[:size + place]), outputs)
    return span


def _with_memory(span, row, outputs):
    # The outputs are those of all rows, the span's own first, this row's behind them.
    place = len(span.rows)
    weights = span.weights(row)
    if weights is not None and dot(span.field, weights, outputs) != outputs[place]:
        opposed = tuple([span.field.negative(number) for number in weights]) + (ONE,)
        raise Quarrel(opposed + zero_row(len(outputs) - len(opposed)))
    return span.with_row(row)


def _line_plus(line, row):
    return _line_of_row(line.field, line.size, row_plus(line.field, line.outs + row_of_rows(line.ins), row))


def _line_of_row(field, size, row):
    # The row has the outs, then the rows of ins one behind another.
    inputs = len(row) // size - 1
    return Line(field, row[:size], [row[at:at + inputs] for at in range(size, len(row), inputs)])
