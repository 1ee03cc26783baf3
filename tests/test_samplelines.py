import unittest
from functools import lru_cache
from random import Random

from kinds import check_all_unlike, check_equal
from linear import starts_of
from lines import lame_lines, own_memory, own_next, own_samples, own_state, some_lines
from measured import SHAPES
from sums import FRACTIONS, NO_ROWS, SMALL_FIELDS, all_tuples, is_controllable, lists, own_run, packed, packed_row
from sums import raised, wholes
from untaughthelm.errors import BadLine, BadRow, BadSamples
from untaughthelm.fields import Field
from untaughthelm.plants import Plant
from untaughthelm.samplelines import Line, memory

ZERO = (0, 1)
ONE = (1, 1)
EXAMPLE = Line(FRACTIONS, wholes(2, 3), [wholes(1, 0), wholes(0, 5)])


def own_product(field, one, other):
    told = [ZERO] * (len(one) + len(other) - 1)
    for low, left in enumerate(one):
        for high, right in enumerate(other):
            told[low + high] = field.plus(told[low + high], field.times(left, right))
    return told


def of_roots(field, roots):
    """The monic polynomial with these roots, the constant first."""
    told = [ONE]
    for root in roots:
        told = own_product(field, told, [field.negative(root), ONE])
    return told


def line_of_polynomials(field, outs, ins):
    """The line of a monic polynomial of degree n and of one of a lesser degree for each input."""
    size = len(outs) - 1
    columns = [list(poly) + [ZERO] * (size - len(poly)) for poly in ins]
    return Line(field, [field.negative(number) for number in reversed(outs[:-1])],
                [[column[size - 1 - at] for column in columns] for at in range(size)])


@lru_cache(None)
def runs():
    """Lines with samples of theirs, by drawn inputs."""
    told = []
    for field in SMALL_FIELDS:
        for line in list(some_lines(field)) + list(lame_lines(field)):
            source = Random(line.size)
            puts = [packed_row(field, [source.randint(-3, 3) for _ in range(line.inputs)]) for _ in range(12)]
            told.append((line, tuple(own_samples(line, starts_of(field, line.size)[3], puts))))
    return tuple(told)


class Making(unittest.TestCase):
    def test_attributes(self):
        for field in SMALL_FIELDS:
            for line in some_lines(field):
                made = Line(field, list(line.outs), lists(line.ins))
                self.assertEqual((made.field, made.outs, made.ins), (field, line.outs, line.ins))
                self.assertTrue(all_tuples((made.outs, made.ins)))
                self.assertEqual((made.size, made.inputs), (len(line.outs), len(line.ins[0])))
                check_equal(self, made, line)
            self.assertEqual([(line.size, line.inputs) for line in some_lines(field)], list(SHAPES))
        self.assertEqual(Line(ins=[wholes(1)], outs=wholes(2), field=FRACTIONS).ins, (wholes(1),))

    def test_wrong_outs(self):
        wrong = [None, 3, "ab", {ONE: 1}, iter([ONE]), (), [], wholes(1, 2, 3, 4, 5), [None], [1], [(2, 4)], [[1, 1]],
                 ONE, [ONE, (1, 0)]]
        for outs in wrong:
            for ins in ([wholes(1)], None, [None]):
                self.assertEqual(raised(Line, FRACTIONS, outs, ins), (BadLine, ("outs",)), outs)
        self.assertEqual(raised(Line, Field(2), wholes(2), [wholes(1)]), (BadLine, ("outs",)))

    def test_wrong_ins(self):
        wrong = [None, 3, "ab", {0: wholes(1), 1: wholes(1)}, (), [wholes(1)], [wholes(1)] * 3, [None, wholes(1)],
                 [wholes(1), None], [(), ()], [wholes(1, 2, 3, 4)] * 2, [wholes(1), wholes(1, 2)],
                 [wholes(1, 2), wholes(1)], [3, 4], ["a", "b"], [wholes(1), [(2, 4)]], [[None], wholes(1)], wholes(1, 2),
                 [{ONE: 1}, wholes(1)], [wholes(1), {ONE: 1}]]
        for ins in wrong:
            self.assertEqual(raised(Line, FRACTIONS, wholes(1, 2), ins), (BadLine, ("ins",)), ins)
        self.assertEqual(raised(Line, Field(2), wholes(1), [wholes(2)]), (BadLine, ("ins",)))

    def test_equality(self):
        things = [EXAMPLE, Line(FRACTIONS, wholes(2, 4), EXAMPLE.ins), Line(FRACTIONS, wholes(2, 3), EXAMPLE.ins[::-1]),
                  Line(Field(7), EXAMPLE.outs, EXAMPLE.ins), Line(FRACTIONS, wholes(2), EXAMPLE.ins[:1]),
                  Line(FRACTIONS, wholes(2, 3), [wholes(1), wholes(0)])]
        check_all_unlike(self, things)

    def test_lists_that_change_later(self):
        outs, ins = lists(EXAMPLE.outs), lists(EXAMPLE.ins)
        line = Line(FRACTIONS, outs, ins)
        outs[0] = ins[0][0] = (9, 1)
        ins.pop()
        check_equal(self, line, EXAMPLE)


class CommonParts(unittest.TestCase):
    def test_lines_of_known_roots(self):
        whole = 0
        for field in SMALL_FIELDS:
            source = Random(5)
            roots = sorted({packed(field, root) for root in (0, 1, -2, 3)})
            for _ in range(60):
                size, inputs = source.randint(1, 4), source.randint(1, 3)
                outs = [source.choice(roots) for _ in range(size)]
                ins = [[source.choice(roots) for _ in range(source.randint(0, size - 1))] if source.randrange(4) else None
                       for _ in range(inputs)]
                line = line_of_polynomials(field, of_roots(field, outs),
                                           [[] if told is None else of_roots(field, told) for told in ins])
                shared = [root for root in roots for _ in range(min(row.count(root) for row in [outs] + ins
                                                                    if row is not None))]
                self.assertEqual(line.common_part(), tuple(of_roots(field, shared)))
                self.assertTrue(all_tuples(line.common_part()))
                self.assertEqual(is_controllable(line.plant()), shared == [])
                whole += shared == []
        self.assertTrue(60 < whole < 240, whole)

    def test_controllable_exactly_without_a_common_part(self):
        for field in SMALL_FIELDS:
            for line in list(some_lines(field)) + list(lame_lines(field)):
                self.assertEqual(is_controllable(line.plant()), line.common_part() == wholes(1))
            self.assertTrue(all(line.common_part() != wholes(1) for line in lame_lines(field)))

    def test_by_hand(self):
        self.assertEqual(EXAMPLE.common_part(), wholes(1))
        self.assertEqual(Line(FRACTIONS, wholes(3, -2), [wholes(1), wholes(-1)]).common_part(), wholes(-1, 1))
        self.assertEqual(Line(FRACTIONS, wholes(3, -2), [wholes(0), wholes(0)]).common_part(), wholes(2, -3, 1))


class OwnStates(unittest.TestCase):
    def test_plant(self):
        for line, _ in runs():
            plant = line.plant()
            self.assertIsInstance(plant, Plant)
            self.assertEqual(plant.b, line.ins)
            for i in range(line.size):
                row = [line.outs[i]] + [ZERO] * (line.size - 1)
                if i + 1 < line.size:
                    row[i + 1] = line.field.plus(row[i + 1], ONE)
                self.assertEqual(plant.a[i], tuple(row))
        self.assertEqual((EXAMPLE.plant().a, EXAMPLE.plant().b), ((wholes(2, 1), wholes(3, 0)), EXAMPLE.ins))

    def test_own_state(self):
        for line, samples in runs():
            for many in range(line.size, len(samples) + 1):
                told = line.own_state(lists(list(samples[:many])))
                self.assertEqual(told, own_state(line, samples[:many]))
                self.assertTrue(all_tuples(told))
                self.assertEqual(told[0], own_next(line, samples[:many]))

    def test_it_goes_on_as_the_line_tells(self):
        for line, samples in runs():
            puts = [u for y, u in samples]
            for many in (line.size, line.size + 1, 9):
                state = line.own_state(samples[:many])
                told = line.outputs(list(state), lists(puts[many:]))
                self.assertEqual(told, tuple(y for y, u in samples[many:]) + (own_next(line, samples),))
                self.assertEqual(len(told), len(puts) - many + 1)
                self.assertTrue(all_tuples(told))
                states = own_run(line.plant(), state, puts[many:])
                self.assertEqual(states[-1], line.own_state(samples=samples))
                self.assertEqual(told, tuple(state[0] for state in states))
        self.assertEqual(EXAMPLE.outputs(puts=(), start=wholes(4, 5)), wholes(4))

    def test_by_hand(self):
        # y(2) = 2 y(1) + 3 y(0) + u1(1) + 5 u2(0), and the last sample alone gives the rest.
        samples = [((7, 1), wholes(1, 2)), ((11, 1), wholes(3, 4))]
        self.assertEqual(EXAMPLE.own_state(samples), wholes(22 + 21 + 3 + 10, 33 + 20))

    def test_memory(self):
        for line, samples in runs():
            for many in range(line.size, len(samples) + 1):
                told = memory(line.size, lists(list(samples[:many])))
                self.assertEqual(told, own_memory(line.size, samples[:many]))
                self.assertTrue(all_tuples(told))
        samples = [((1, 1), wholes(2, 3)), ((4, 1), wholes(5, 6)), ((7, 1), wholes(8, 9))]
        self.assertEqual(memory(samples=samples, size=2), wholes(7, 4, 8, 9, 5, 6))
        self.assertEqual(memory(3, samples), wholes(7, 4, 1, 8, 9, 5, 6, 2, 3))


class Misses(unittest.TestCase):
    def test_none_for_the_line_itself(self):
        for line, samples in runs():
            for many in range(len(samples) + 1):
                self.assertEqual(line.misses(samples[:many]), ())

    def test_altered_outputs(self):
        for line, samples in runs():
            for tick in range(len(samples)):
                y, u = samples[tick]
                told = samples[:tick] + ((line.field.plus(y, ONE), u),) + samples[tick + 1:]
                due = tuple(at for at in range(line.size, len(told)) if own_next(line, told[:at]) != told[at][0])
                self.assertEqual(line.misses(lists(list(told))), due)
                self.assertTrue(all_tuples(line.misses(samples=told)))
                if tick >= line.size:
                    self.assertEqual(due[0], tick)


class Refusals(unittest.TestCase):
    def test_samples(self):
        good = (ONE, wholes(1, 2))
        for call in (EXAMPLE.own_state, EXAMPLE.misses):
            for samples in (None, 3, "ab", {0: good}, iter([good]), [good] * 61, [None] * 61):
                self.assertEqual(raised(call, samples), (BadSamples, ("many",)))
            wrong = [None, 3, "ab", (), (ONE,), good + (1,), (1, good[1]), ([1, 1], good[1]), ((2, 4), good[1]),
                     (None, good[1]), {0: 1, 1: 2}, iter(good)]
            wrong += [(ONE, row) for row in NO_ROWS]
            for sample in wrong:
                for samples in ([sample], [good, sample], [good, good, sample, good], (sample,) * 60):
                    self.assertEqual(raised(call, samples), (BadRow, ("samples",)), sample)
            self.assertIs(raised(call, [good] * 60), None)
            self.assertIs(raised(call, ([ONE, list(good[1])], list(good))), None)

    def test_few_samples(self):
        for field in SMALL_FIELDS:
            for line in some_lines(field):
                for many in range(line.size):
                    samples = [(ONE, (ZERO,) * line.inputs)] * many
                    self.assertEqual(raised(line.own_state, samples), (BadSamples, ("few",)))
                    self.assertEqual(line.misses(samples), ())
        self.assertEqual(raised(EXAMPLE.own_state, [(ONE, wholes(1))]), (BadRow, ("samples",)))

    def test_outputs(self):
        for row in NO_ROWS:
            self.assertEqual(raised(EXAMPLE.outputs, row, None), (BadRow, ("start",)))
            self.assertEqual(raised(EXAMPLE.outputs, wholes(1, 2), [row]), (BadRow, ("puts",)))
        for puts in (None, 3, "ab", {0: wholes(1, 2)}):
            self.assertEqual(raised(EXAMPLE.outputs, wholes(1, 2), puts), (BadRow, ("puts",)))

    def test_nothing_passed_in_is_changed(self):
        samples = lists([((7, 1), wholes(1, 2)), ((11, 1), wholes(3, 4)), ((0, 1), wholes(0, 0))])
        for call in (EXAMPLE.own_state, EXAMPLE.misses, lambda told: memory(2, told)):
            before = lists(samples)
            call(samples)
            self.assertEqual(samples, before)


if __name__ == "__main__":
    unittest.main()
