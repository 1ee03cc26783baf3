import unittest
from functools import lru_cache
from random import Random

from kinds import check_all_unlike, check_equal, check_unlike
from linear import first_new_of, starts_of, weights_in
from lines import lame_lines, own_line, own_memory, own_next, own_rows, own_samples, own_state, some_lines
from sums import FRACTIONS, NO_ROWS, SMALL_FIELDS, all_rows, all_tuples, is_controllable, lies_in, lists, own_reply
from sums import packed_row, raised, rank_in, sum_in, wholes
from untaughthelm.errors import BadRow, BadSamples, Quarrel
from untaughthelm.fields import Field
from untaughthelm.reaches import puts_to
from untaughthelm.rows import unit_row, zero_row
from untaughthelm.samplelines import Line
from untaughthelm.unseen import UnseenAsker, next_output, twin_line

ZERO = (0, 1)
ONE = (1, 1)
NO_SIZES = (0, 5, -1, True, False, None, "2", (2, 1), [2])
NO_INPUTS = (0, 4, -1, True, False, None, "1", (1, 1), [1])


def own_quarrel(field, rows):
    """The weights of the first row that quarrels, None if none does."""
    for place, (row, output) in enumerate(rows):
        weights = weights_in(field, [row for row, _ in rows[:place]], row)
        if weights is not None and sum_in(field, weights, [(y,) for _, y in rows[:place]], 1) != (output,):
            opposed = tuple(field.negative(number) for number in weights)
            return opposed + (ONE,) + zero_row(len(rows) - place - 1)
    return None


def own_choice(field, size, inputs, samples, y):
    """The first rule of 10.7 that applies, by sums of the tests' own."""
    zero = zero_row(inputs)
    rows = own_rows(size, list(samples) + [(y, zero)])
    memories = [row for row, _ in rows]
    if rank_in(field, memories) == size + size * inputs:
        line = own_line(field, size, inputs, rows)
        state = own_state(line, samples)
        if state == zero_row(size):
            return "rest", zero
        plant, moved, reached, drifted = line.plant(), line.plant().b, [], state
        columns = [tuple(row[j] for row in moved) for j in range(inputs)]
        for ticks in range(1, size + 1):
            reached += columns
            columns = [own_reply(plant, column, zero) for column in columns]
            drifted = own_reply(plant, drifted, zero)
            if lies_in(field, reached, drifted):
                return "way", puts_to(plant, state, zero_row(size), ticks)[0]
        return "never", zero
    if len(samples) + 1 < size:
        return "ask", zero
    row = own_memory(size, list(samples) + [(y, zero)])
    put = first_new_of(field, inputs, memories, row[:size], row[size + inputs:])
    return ("stuck", zero) if put is None else ("ask", put)


def play(line, first, asker, many):
    """The askers of a run of the line, one behind each output."""
    askers = [asker]
    for _ in range(many):
        samples = askers[-1].samples
        y = first[len(samples)] if len(samples) < line.size else own_next(line, samples)
        askers.append(askers[-1].hear(y))
    return askers


def firsts_of(field, size):
    yield from starts_of(field, size)


@lru_cache(None)
def plays():
    """Runs from no samples, of lines with and without a common part."""
    told = []
    for field in SMALL_FIELDS:
        for place, line in enumerate(list(some_lines(field)) + list(lame_lines(field))):
            first = list(firsts_of(field, line.size))[place % 4]
            asker = UnseenAsker(field, line.size, line.inputs)
            many = 3 * line.size + line.size * line.inputs + 2
            told.append((line, first, tuple(play(line, first, asker, many))))
    return tuple(told)


@lru_cache(None)
def given():
    """Samples that others began, by drawn inputs, by none, and by one that is repeated."""
    told = []
    for field in (FRACTIONS, Field(2), Field(7)):
        for place, line in enumerate(list(some_lines(field)) + list(lame_lines(field))):
            source = Random(place)
            first = list(firsts_of(field, line.size))[(place + 1) % 4]
            drawn = [packed_row(field, [source.randint(-2, 2) for _ in range(line.inputs)]) for _ in range(24)]
            zeros = [zero_row(line.inputs)] * 24
            for puts in (drawn, zeros, [unit_row(line.inputs, 0)] * 24):
                samples = own_samples(line, first, puts)
                for many in (1, line.size - 1, line.size, line.size + 2, 2 * line.size + line.size * line.inputs, 20):
                    told.append((line, first, tuple(samples[:many])))
    return tuple(told)


def small_samples():
    """Samples by small rests, of lines and of none."""
    source = Random(9)
    for prime, size, inputs in ((2, 1, 1), (3, 1, 1), (2, 2, 1), (2, 1, 2), (3, 1, 2), (2, 2, 2)):
        field = Field(prime)
        rows = all_rows(prime, size + size * inputs)
        for many in range(7):
            for turn in range(12):
                puts = [tuple((source.randrange(prime), 1) for _ in range(inputs)) for _ in range(many)]
                row = source.choice(rows)
                line = Line(field, row[:size], [row[at:at + inputs] for at in range(size, len(row), inputs)])
                first = [(source.randrange(prime), 1) for _ in range(size)]
                samples = own_samples(line, first, puts)
                if turn % 3 == 0:
                    samples = [((source.randrange(prime), 1), u) for y, u in samples]
                yield field, size, inputs, rows, samples


class NextOutputs(unittest.TestCase):
    def test_against_all_lines(self):
        counts = {"sure": 0, "open": 0, "none": 0}
        for field, size, inputs, rows, samples in small_samples():
            bound = own_rows(size, samples)
            fits = [row for row in rows if all(sum_in(field, row, [(part,) for part in memory], 1) == (output,)
                                               for memory, output in bound)]
            if not fits:
                self.assertEqual(raised(next_output, field, size, inputs, samples), (Quarrel, (own_quarrel(field, bound),)))
                counts["none"] += 1
                continue
            told = next_output(field, size, inputs, samples)
            if len(samples) < size:
                self.assertIs(told, None)
                continue
            memory = own_memory(size, samples)
            found = {sum_in(field, row, [(part,) for part in memory], 1)[0] for row in fits}
            self.assertEqual(told, found.pop() if len(found) == 1 else None)
            counts["open" if told is None else "sure"] += 1
        self.assertGreater(min(counts.values()), 40, counts)

    def test_sure_exactly_if_the_memory_is_a_sum(self):
        for line, first, samples in given():
            told = next_output(line.field, line.size, line.inputs, lists(list(samples)))
            if len(samples) < line.size:
                self.assertIs(told, None)
                continue
            memory = own_memory(line.size, samples)
            sure = lies_in(line.field, [row for row, _ in own_rows(line.size, samples)] + [zero_row(len(memory))], memory)
            self.assertEqual(told, own_next(line, samples) if sure else None)
            self.assertTrue(told is None or all_tuples(told))

    def test_few_samples_and_zeros(self):
        for size in (1, 2, 3, 4):
            for many in range(size):
                self.assertIs(next_output(FRACTIONS, size, 2, [(ZERO, wholes(0, 0))] * many), None)
            self.assertEqual(next_output(samples=[(ZERO, wholes(0, 0))] * size, inputs=2, size=size, field=FRACTIONS), ZERO)
            self.assertIs(next_output(FRACTIONS, size, 2, [(ZERO, wholes(0, 1))] * size), None)

    def test_quarrels(self):
        many = 0
        for line, first, samples in given()[::4]:
            for tick in range(line.size, len(samples), 4):
                y, u = samples[tick]
                told = samples[:tick] + ((line.field.plus(y, ONE), u),) + samples[tick + 1:]
                weights = own_quarrel(line.field, own_rows(line.size, told))
                if weights is not None:
                    for call in (next_output, UnseenAsker):
                        self.assertEqual(raised(call, line.field, line.size, line.inputs, told), (Quarrel, (weights,)))
                    many += 1
        self.assertGreater(many, 50)

    def test_a_quarrel_by_hand(self):
        # The outputs 1, 2, 4 and 9 by zero inputs: 2 times each tells 8, not 9.
        samples = [((y, 1), wholes(0)) for y in (1, 2, 4, 9, 7)]
        self.assertEqual(raised(next_output, FRACTIONS, 1, 1, samples), (Quarrel, (wholes(-4, 0, 1, 0),)))
        self.assertEqual(raised(UnseenAsker, FRACTIONS, 1, 1, samples), (Quarrel, (wholes(-4, 0, 1, 0),)))
        # A memory of zeros with another output than 0.
        self.assertEqual(raised(next_output, FRACTIONS, 1, 1, [(ZERO, wholes(0)), (ONE, wholes(0))]), (Quarrel, (wholes(1),)))


class Twins(unittest.TestCase):
    def test_none_exactly_at_the_full_rank(self):
        counts = {True: 0, False: 0}
        for line, first, samples in given():
            if len(samples) < line.size:
                continue
            rows = own_rows(line.size, samples)
            told = twin_line(line, lists(list(samples)))
            full = rank_in(line.field, [row for row, _ in rows]) == line.size + line.size * line.inputs
            self.assertEqual(told is None, full)
            counts[full] += 1
            if told is not None:
                self.assertIsInstance(told, Line)
                self.assertEqual((told.field, told.size, told.inputs), (line.field, line.size, line.inputs))
                self.assertNotEqual(told, line)
                for tick in range(line.size, len(samples)):
                    self.assertEqual(own_next(told, samples[:tick]), samples[tick][0])
                if line.field == FRACTIONS and is_controllable(line.plant()):
                    self.assertTrue(is_controllable(told.plant()))
        self.assertGreater(min(counts.values()), 40)

    def test_small_rests(self):
        for field, size, inputs, rows, samples in small_samples():
            if len(samples) >= size:
                row = next((row for row in rows if all(sum_in(field, row, [(part,) for part in memory], 1) == (output,)
                                                       for memory, output in own_rows(size, samples))), None)
                if row is not None:
                    line = Line(field, row[:size], [row[at:at + inputs] for at in range(size, len(row), inputs)])
                    told = twin_line(samples=samples, line=line)
                    rank = rank_in(field, [memory for memory, _ in own_rows(size, samples)])
                    self.assertEqual(told is None, rank == size + size * inputs)
                    self.assertTrue(told is None or told != line and told.misses(samples) == ())

    def test_the_first_multiples_may_leave_a_common_part(self):
        # y(t) = a y(t - 1) + b u(t - 1) has none exactly if b is not 0; only b is open here.
        told = 0
        for b in range(-6, 0):
            line = Line(FRACTIONS, wholes(1), [wholes(b)])
            other = twin_line(line, [(ONE, wholes(0)), (ONE, wholes(3))])
            self.assertEqual(other.outs, wholes(1))
            self.assertNotEqual(other.ins[0], wholes(0))
            told += 1
        # Of size 4, with roots 1 to 4 of the outputs' polynomial: what the twin adds may meet each of them.
        outs = wholes(10, -35, 50, -24)
        for number in range(-8, 8):
            line = Line(FRACTIONS, outs, [wholes(number), wholes(1), wholes(0), wholes(2)])
            if line.common_part() == wholes(1):
                for samples in ([(ZERO, wholes(0))] * 4, [(ONE, wholes(0))] * 5, own_samples(line, wholes(1, 0, 0, 0), [wholes(1)] * 9)):
                    if line.misses(samples) == ():
                        self.assertEqual(twin_line(line, samples).common_part(), wholes(1))
                        told += 1
        self.assertGreater(told, 20)

    def test_errors_in_their_order(self):
        line = Line(FRACTIONS, wholes(2, 3), [wholes(1, 0), wholes(0, 5)])
        check_bad_samples(self, lambda samples: twin_line(line, samples))
        good = (ONE, wholes(1, 2))
        for samples in ([], [good]):
            self.assertEqual(raised(twin_line, line, samples), (BadSamples, ("few",)))
        self.assertEqual(raised(twin_line, line, [good, good, good]), (BadSamples, ("line",)))
        for field in SMALL_FIELDS:
            for told in some_lines(field):
                samples = own_samples(told, starts_of(field, told.size)[2], [unit_row(told.inputs, 0)] * 8)
                self.assertIs(raised(twin_line, told, samples), None)
                wrong = samples[:-1] + [(field.plus(samples[-1][0], ONE), samples[-1][1])]
                self.assertEqual(raised(twin_line, told, wrong), (BadSamples, ("line",)))
                self.assertEqual(raised(twin_line, told, samples[:told.size - 1]), (BadSamples, ("few",)))


def check_bad_samples(case, call):
    """What all that take samples of two inputs refuse."""
    good = (ONE, wholes(1, 2))
    for samples in (None, 3, "ab", {0: good}, iter([good]), [good] * 61, [None] * 61):
        case.assertEqual(raised(call, samples), (BadSamples, ("many",)))
    wrong = [None, 3, "ab", (), (ONE,), good + (1,), (1, good[1]), ((2, 4), good[1]), (None, good[1])]
    for sample in wrong + [(ONE, row) for row in NO_ROWS]:
        for samples in ([sample], [good, sample], [good, good, sample, good]):
            case.assertEqual(raised(call, samples), (BadRow, ("samples",)))


class Askers(unittest.TestCase):
    def test_making(self):
        for line, first, samples in given():
            asker = UnseenAsker(line.field, line.size, line.inputs, lists(list(samples)))
            self.assertEqual((asker.field, asker.size, asker.inputs), (line.field, line.size, line.inputs))
            self.assertEqual((asker.samples, asker.choice), (samples, None))
            self.assertTrue(all_tuples(asker.samples))
            self.check_rank_and_line(asker)
        asker = UnseenAsker(samples=(), inputs=2, size=3, field=FRACTIONS)
        self.assertEqual((asker.samples, asker.choice, asker.rank, asker.line()), ((), None, 0, None))

    def check_rank_and_line(self, asker):
        rows = own_rows(asker.size, asker.samples)
        self.assertEqual(asker.rank, rank_in(asker.field, [row for row, _ in rows]))
        told = asker.line()
        if asker.rank == asker.size + asker.size * asker.inputs:
            self.assertEqual(told, own_line(asker.field, asker.size, asker.inputs, rows))
        else:
            self.assertIs(told, None)

    def test_choices_from_no_samples(self):
        words = {}
        for line, first, askers in plays():
            for before, asker in zip(askers, askers[1:]):
                y = asker.samples[-1][0]
                due = own_choice(line.field, line.size, line.inputs, before.samples, y)
                self.assertEqual(asker.choice, due)
                self.assertEqual(asker.samples, before.samples + ((y, due[1]),))
                self.assertTrue(all_tuples((asker.choice[1], asker.samples)))
                self.assertIsInstance(asker.choice, tuple)
                words[due[0]] = words.get(due[0], 0) + 1
        self.assertEqual(set(words), {"rest", "way", "never", "ask", "stuck"})
        self.assertGreater(min(words.values()), 20, words)

    def test_choices_behind_given_samples(self):
        words = {}
        for line, first, samples in given()[::2]:
            asker = UnseenAsker(line.field, line.size, line.inputs, samples)
            for _ in range(2):
                before = asker.samples
                y = first[len(before)] if len(before) < line.size else own_next(line, before)
                due = own_choice(line.field, line.size, line.inputs, before, y)
                asker = asker.hear(y)
                self.assertEqual((asker.choice, asker.samples), (due, before + ((y, due[1]),)))
                words[due[0]] = words.get(due[0], 0) + 1
            self.check_rank_and_line(asker)
        self.assertEqual(set(words), {"rest", "way", "never", "ask", "stuck"})

    def test_the_main_fact(self):
        whole = 0
        for field in SMALL_FIELDS:
            for line in some_lines(field):
                if line.common_part() != wholes(1):
                    continue
                size, inputs = line.size, line.inputs
                whole += 1
                for first in firsts_of(field, size):
                    last = 3 * size + size * inputs - 1
                    askers = play(line, first, UnseenAsker(field, size, inputs), last + 3)
                    for asker in askers:
                        many = len(asker.samples)
                        self.assertEqual(asker.rank, min(max(0, many - size), size + size * inputs))
                        self.assertEqual(asker.line(), line if many >= 2 * size + size * inputs else None)
                        self.assertNotIn(asker.choice and asker.choice[0], ("never", "stuck"))
                        self.assertEqual(twin_of(line, asker) is None, many >= 2 * size + size * inputs)
                    for asker in askers[last:]:
                        if len(asker.samples) >= size:
                            self.assertEqual(own_state(line, asker.samples[:last]), zero_row(size))
                    self.assertEqual([y for y, u in askers[-1].samples[last:]], [ZERO] * 3)
                    self.assertEqual([asker.choice[0] for asker in askers[last + 1:]], ["rest"] * 3)
        self.assertGreater(whole, 30)

    def test_line_by_hand(self):
        # y(t) = 2 y(t - 1) + u(t - 1), from 1: asked by 0 and 1, then led to zero.
        asker = UnseenAsker(FRACTIONS, 1, 1)
        for y, choice in ((1, ("ask", wholes(0))), (2, ("ask", wholes(1))), (5, ("way", wholes(-10))), (0, ("rest", wholes(0)))):
            asker = asker.hear((y, 1))
            self.assertEqual(asker.choice, choice)
        self.assertEqual(asker.line(), Line(FRACTIONS, wholes(2), [wholes(1)]))
        # y(t) = 2 y(t - 1) is told, too, and never rests; from 0 on nothing is told.
        asker = UnseenAsker(FRACTIONS, 1, 1).hear(ONE).hear((2, 1)).hear((4, 1))
        self.assertEqual((asker.choice, asker.line()), (("never", wholes(0)), Line(FRACTIONS, wholes(2), [wholes(0)])))
        asker = UnseenAsker(FRACTIONS, 1, 1).hear(ZERO).hear(ZERO)
        self.assertEqual((asker.choice, asker.line()), (("stuck", wholes(0)), None))

    def test_quarrels_of_hear(self):
        many = 0
        for line, first, askers in plays()[::3]:
            for asker in askers:
                if len(asker.samples) < line.size:
                    self.assertIs(raised(asker.hear, ONE), None)
                    continue
                y = line.field.plus(own_next(line, asker.samples), ONE)
                weights = own_quarrel(line.field, own_rows(line.size, asker.samples + ((y, zero_row(line.inputs)),)))
                told = raised(asker.hear, y)
                self.assertEqual(told, None if weights is None else (Quarrel, (weights,)))
                if told is not None:
                    self.assertEqual(len(told[1][0]), len(asker.samples) - line.size + 1)
                    self.assertTrue(all_tuples(told[1][0]))
                    many += 1
        self.assertGreater(many, 60)

    def test_equality(self):
        first = UnseenAsker(FRACTIONS, 1, 1)
        samples = [(ONE, wholes(0)), ((2, 1), wholes(1))]
        heard = first.hear(ONE).hear((2, 1))
        self.assertEqual(heard.samples, tuple(samples))
        made = UnseenAsker(FRACTIONS, 1, 1, samples)
        check_unlike(self, heard, made)
        check_equal(self, heard, first.hear(ONE).hear((2, 1)))
        check_equal(self, made, UnseenAsker(FRACTIONS, 1, 1, tuple(samples)))
        check_equal(self, made.hear((5, 1)), heard.hear((5, 1)))
        check_all_unlike(self, [first, made, heard, first.hear(ONE), UnseenAsker(FRACTIONS, 2, 1), UnseenAsker(Field(5), 1, 1),
                                UnseenAsker(FRACTIONS, 1, 2), UnseenAsker(FRACTIONS, 1, 1, samples[:1])])

    def test_errors_in_their_order(self):
        for call in (UnseenAsker, next_output):
            for size in NO_SIZES:
                for inputs, samples in ((1, ()), (0, None)):
                    self.assertEqual(raised(call, FRACTIONS, size, inputs, samples), (BadSamples, ("size",)))
            for inputs in NO_INPUTS:
                for samples in ((), None, [None]):
                    self.assertEqual(raised(call, FRACTIONS, 2, inputs, samples), (BadSamples, ("inputs",)))
            check_bad_samples(self, lambda samples: call(FRACTIONS, 2, 2, samples))
            # A wrong row behind a quarrel.
            samples = [(ZERO, wholes(0)), (ONE, wholes(0)), (ONE, None)]
            self.assertEqual(raised(call, FRACTIONS, 1, 1, samples), (BadRow, ("samples",)))
            self.assertIs(raised(call, FRACTIONS, 2, 1, [(ZERO, wholes(0))] * 60), None)

    def test_errors_of_hear(self):
        wrong = (None, 1, "a", [1, 1], (2, 4), (1, 0), (True, 1), wholes(1), ())
        for samples in ([], [(ONE, wholes(0))] * 59):
            for y in wrong:
                self.assertEqual(raised(UnseenAsker(FRACTIONS, 1, 1, samples).hear, y), (BadRow, ("y",)))
        full = UnseenAsker(FRACTIONS, 1, 1, [(ONE, wholes(0))] * 60)
        for y in wrong + (ONE, (5, 1)):
            self.assertEqual(raised(full.hear, y), (BadSamples, ("many",)))
        self.assertEqual(raised(UnseenAsker(Field(2), 1, 1).hear, (2, 1)), (BadRow, ("y",)))
        asker = UnseenAsker(FRACTIONS, 1, 1, [(ONE, wholes(0))] * 59)
        self.assertEqual(len(asker.hear(y=ONE).samples), 60)

    def test_what_is_passed_in_is_not_kept(self):
        samples = [[ONE, [ZERO]], [(2, 1), [ONE]]]
        asker = UnseenAsker(FRACTIONS, 1, 1, samples)
        next_output(FRACTIONS, 1, 1, samples)
        twin_line(Line(FRACTIONS, wholes(2), [wholes(1)]), samples)
        self.assertEqual(samples, [[ONE, [ZERO]], [(2, 1), [ONE]]])
        samples[0][1][0] = samples[1][0] = (9, 1)
        samples.pop()
        self.assertEqual(asker.samples, ((ONE, wholes(0)), ((2, 1), wholes(1))))
        self.assertEqual((asker.hear((5, 1)).choice, asker.choice), (("way", wholes(-10)), None))


def twin_of(line, asker):
    return twin_line(line, asker.samples) if len(asker.samples) >= line.size else line


if __name__ == "__main__":
    unittest.main()
