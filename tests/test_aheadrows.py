import unittest
from functools import lru_cache
from itertools import product
from random import Random

from kinds import check_result
from linear import first_new_of
from measured import SHAPES
from sums import FRACTIONS, NO_ROWS, SMALL_FIELDS, all_plants, all_rows, all_tuples, dots, is_controllable, lists
from sums import own_run, packed, packed_row, plant_of, raised, rank_in, sum_in, wholes
from untaughthelm.aheadrows import Unlearnt, deep_rank, deep_weights, finished_row, least_length, made_row, unlearnt
from untaughthelm.aheadrows import unlearnt_fault
from untaughthelm.errors import BadAhead, BadRow, MixedFields
from untaughthelm.fields import Field
from untaughthelm.plants import Plant
from untaughthelm.rows import unit_row, zero_row

ZERO = (0, 1)
NO_SIZES = (0, 5, -1, True, False, None, "2", (2, 1), [2])
NO_INPUTS = (0, 4, -1, True, False, None, "1", (1, 1), [1])
NO_DEPTHS = (0, 9, -1, True, False, None, "1", (1, 1), [1])


def windows(puts, depth):
    return [tuple(number for put in puts[at:at + depth] for number in put) for at in range(len(puts) - depth + 1)]


def own_rank(field, puts, depth):
    return rank_in(field, windows(puts, depth))


def is_deep(field, size, inputs, puts):
    return own_rank(field, puts, size + 1) == (size + 1) * inputs


def drawn(field, inputs, many, seed):
    source = Random(seed)
    return tuple(packed_row(field, [source.randint(-2, 2) for _ in range(inputs)]) for _ in range(many))


def puts_of(field, inputs):
    """Inputs of many kinds: none, zeros, one pulse, one repeated, those that one row of weights silences, drawn ones."""
    yield ()
    yield (zero_row(inputs),)
    yield (zero_row(inputs),) * 9
    yield (zero_row(inputs),) * 3 + (unit_row(inputs, 0),) + (zero_row(inputs),) * 4
    yield (packed_row(field, [1, 2, 3][:inputs]),) * 10
    yield tuple(row[:-1] + row[:1] for row in drawn(field, inputs, 20, 5))
    # The last number of each input is the first number of the input before.
    row = drawn(field, inputs, 20, 6)
    yield tuple(put[:-1] + before[:1] for before, put in zip(row, row[1:]))
    for seed, many in enumerate((1, 2, 3, 5, 8, 13, 25)):
        yield drawn(field, inputs, many, seed)


@lru_cache(None)
def cases():
    told = []
    for field in SMALL_FIELDS:
        for size, inputs in SHAPES:
            told += [(field, size, inputs, puts) for puts in puts_of(field, inputs)]
    return tuple(told)


class Depths(unittest.TestCase):
    def test_deep_rank(self):
        for field in SMALL_FIELDS:
            for inputs in (1, 2, 3):
                for puts in puts_of(field, inputs):
                    for depth in range(1, 9):
                        due = own_rank(field, puts, depth)
                        self.assertEqual(deep_rank(field, inputs, puts, depth), due)
                        self.assertEqual(deep_rank(depth=depth, puts=lists(puts), inputs=inputs, field=field), due)
        self.assertEqual(deep_rank(FRACTIONS, 1, [wholes(1), wholes(2), wholes(4)], 2), 1)
        self.assertEqual(deep_rank(FRACTIONS, 1, [wholes(1), wholes(2), wholes(4)], 4), 0)

    def test_least_length(self):
        for size, inputs in SHAPES:
            many = least_length(inputs=inputs, size=size)
            self.assertEqual(many, size * inputs + size + inputs)
            # One input less has not as many windows as their rank would be.
            self.assertLess(many - 1 - size, (size + 1) * inputs)

    def test_made_row(self):
        for field in SMALL_FIELDS:
            for size, inputs in SHAPES:
                told = made_row(field, size, inputs)
                self.assertEqual(len(told), least_length(size, inputs))
                self.assertTrue(is_deep(field, size, inputs, told))
                self.assertTrue(all_tuples(told))
                due = [zero_row(inputs)] * len(told)
                for place in range(inputs):
                    due[size + place * (size + 1)] = unit_row(inputs, place)
                self.assertEqual(told, tuple(due))
        self.assertEqual(made_row(inputs=2, size=1, field=FRACTIONS),
                         (wholes(0, 0), wholes(1, 0), wholes(0, 0), wholes(0, 1), wholes(0, 0)))

    def test_no_fewer_puts_are_deep(self):
        for size, inputs in ((1, 1), (2, 1), (1, 2), (3, 1)):
            rows = all_rows(2, inputs)
            for puts in product(rows, repeat=least_length(size, inputs) - 1):
                self.assertIsNot(deep_weights(Field(2), size, inputs, puts), None)


class Finished(unittest.TestCase):
    def check(self, field, size, inputs, puts):
        told = finished_row(field, size, inputs, lists(puts))
        self.assertTrue(all_tuples(told))
        self.assertEqual(told[:len(puts)], tuple(puts))
        self.assertTrue(is_deep(field, size, inputs, told))
        many = max(0, size - len(puts)) + inputs * (size + 1) - own_rank(field, puts, size + 1)
        self.assertEqual(len(told) - len(puts), many)
        for at in range(len(puts), len(told)):
            if at < size:
                self.assertEqual(told[at], zero_row(inputs))
            else:
                self.assertEqual(told[at], first_new_of(field, inputs, windows(told[:at], size + 1),
                                                        windows(told[at - size:at], size)[0]))
        return told

    def test_by_the_rule(self):
        for field, size, inputs, puts in cases():
            if field == Field(3) or len(puts) < 6:
                self.check(field, size, inputs, puts)

    def test_from_no_puts_it_is_made_row(self):
        for field in SMALL_FIELDS:
            for size, inputs in SHAPES:
                self.assertEqual(finished_row(field, size, inputs, ()), made_row(field, size, inputs))
                self.assertEqual(finished_row(field, size, inputs, []), made_row(field, size, inputs))

    def test_deep_puts_stay(self):
        for field in SMALL_FIELDS:
            for size, inputs in SHAPES:
                puts = made_row(field, size, inputs)
                self.assertEqual(finished_row(puts=puts, inputs=inputs, size=size, field=field), puts)

    def test_from_nearly_sixty_puts(self):
        for many in (58, 59, 60):
            for field, size, inputs in ((FRACTIONS, 1, 1), (FRACTIONS, 2, 2), (Field(2), 2, 1), (Field(2), 4, 3)):
                if many == 60 or size < 4:
                    zeros = (zero_row(inputs),) * many
                    told = self.check(field, size, inputs, zeros)
                    self.assertEqual(len(told), many + inputs * (size + 1))
                    self.check(field, size, inputs, (packed_row(field, [1, 2, 3][:inputs]),) * many)

    def test_no_fewer_inputs_behind_are_enough(self):
        for size, inputs in ((1, 1), (2, 1), (1, 2)):
            for many in range(4):
                for puts in product(all_rows(2, inputs), repeat=many):
                    added = len(finished_row(Field(2), size, inputs, puts)) - many
                    for others in product(all_rows(2, inputs), repeat=added - 1) if 0 < added < 7 else ():
                        self.assertFalse(is_deep(Field(2), size, inputs, puts + others))


class Weights(unittest.TestCase):
    def test_none_exactly_if_the_puts_are_deep(self):
        counts = {True: 0, False: 0}
        for field, size, inputs, puts in cases():
            told = deep_weights(field, size, inputs, lists(puts))
            self.assertEqual(told is None, is_deep(field, size, inputs, puts))
            counts[told is None] += 1
            if told is None:
                continue
            self.assertEqual([len(row) for row in told], [inputs] * (size + 1))
            self.assertTrue(all_tuples(told))
            self.assertTrue(all(field.holds_row(row, inputs) for row in told))
            row = tuple(number for part in told for number in part)
            self.assertNotEqual(row, zero_row(len(row)))
            for window in windows(puts, size + 1):
                self.assertEqual(dots(field, row, window), ZERO)
        self.assertGreater(min(counts.values()), 50)


def states_and_inputs(plant, start, puts):
    return [x + tuple(u) for x, u in zip(own_run(plant, start, puts), puts)]


class Facts(unittest.TestCase):
    def test_deep_puts_tell_every_controllable_plant_from_every_start(self):
        for size, inputs in ((1, 1), (2, 1), (1, 2)):
            deep = [made_row(Field(2), size, inputs)]
            deep += [finished_row(Field(2), size, inputs, puts) for puts in product(all_rows(2, inputs), repeat=2)]
            for plant in all_plants(2, size, inputs):
                if is_controllable(plant):
                    for start in all_rows(2, size):
                        for puts in deep:
                            self.assertEqual(rank_in(Field(2), states_and_inputs(plant, start, puts)), size + inputs)

    def test_other_puts_leave_two(self):
        for size, inputs, many in ((1, 1, 4), (2, 1, 6), (1, 2, 4)):
            for length in range(many + 1):
                for puts in product(all_rows(2, inputs), repeat=length):
                    told = unlearnt(Field(2), size, inputs, puts)
                    self.assertEqual(told is None, is_deep(Field(2), size, inputs, puts))
                    if told is not None:
                        check_unlearnt(self, Field(2), size, inputs, puts, told)


def check_unlearnt(case, field, size, inputs, puts, told):
    """All that 9.7 asks of an Unlearnt."""
    case.assertIsInstance(told, Unlearnt)
    for plant in (told.plant, told.other):
        case.assertIsInstance(plant, Plant)
        case.assertEqual((plant.field, plant.size, plant.inputs), (field, size, inputs))
    case.assertTrue(is_controllable(told.plant))
    case.assertTrue(field.holds_row(told.start, size))
    case.assertTrue(field.holds_row(told.silent, size + inputs))
    case.assertTrue(all_tuples((told.start, told.silent)))
    case.assertNotEqual(told.silent[:size], zero_row(size))
    for row in states_and_inputs(told.plant, told.start, puts):
        case.assertEqual(dots(field, told.silent, row), ZERO)
    case.assertNotEqual(told.plant, told.other)
    case.assertEqual(own_run(told.plant, told.start, puts), own_run(told.other, told.start, puts))
    if field.prime != 2:
        case.assertTrue(is_controllable(told.other))


class Unlearnts(unittest.TestCase):
    def test_what_is_asked_of_them(self):
        many = 0
        for field, size, inputs, puts in cases():
            told = unlearnt(field, size, inputs, lists(puts))
            self.assertEqual(told is None, is_deep(field, size, inputs, puts))
            if told is not None:
                check_unlearnt(self, field, size, inputs, puts, told)
                self.assertIs(unlearnt_fault(field, size, inputs, puts, told), None)
                many += 1
        self.assertGreater(many, 400)

    def test_weights_with_common_factors(self):
        # Inputs that follow a rule of their own: the weights' polynomials share all of it, or more.
        for field in SMALL_FIELDS:
            for size in (1, 2, 3, 4):
                for rule in ([1], [0, 1], [1, 1], [2, 0, 1], [1, -3, 0, 1], [0, 0, 0, 1], [1, 0, 0, 1]):
                    for inputs in (1, 2):
                        row = [packed(field, number) for number in (1, 3, -1, 2)][:len(rule)]
                        while len(row) < 20:
                            row.append(dots(field, [packed(field, number) for number in rule], row[-len(rule):]))
                        puts = tuple((number,) * inputs for number in row)
                        told = unlearnt(field, size, inputs, puts)
                        if not is_deep(field, size, inputs, puts):
                            check_unlearnt(self, field, size, inputs, puts, told)

    def test_sixty_puts(self):
        for field in (FRACTIONS, Field(2), Field(7)):
            puts = tuple((a, b, field.plus(a, b)) for a, b in drawn(field, 2, 60, 3))
            told = unlearnt(puts=puts, inputs=3, size=4, field=field)
            check_unlearnt(self, field, 4, 3, puts, told)
            self.assertIs(unlearnt_fault(field, 4, 3, puts, told), None)

    def test_it_is_a_result(self):
        check_result(self, Unlearnt, ("plant", "start", "silent", "other"))


class Faults(unittest.TestCase):
    PUTS = tuple(wholes(tick % 2) for tick in range(8))

    def judged(self, told, puts=PUTS, size=2):
        return unlearnt_fault(FRACTIONS, size, 1, puts, told)

    def changed(self, told, **parts):
        names = ("plant", "start", "silent", "other")
        return Unlearnt(**{**{name: getattr(told, name) for name in names}, **parts})

    def setUp(self):
        self.told = unlearnt(FRACTIONS, 2, 1, self.PUTS)

    def test_lists_are_right(self):
        told = self.changed(self.told, start=list(self.told.start), silent=list(self.told.silent))
        self.assertIs(self.judged(told), None)
        self.assertIs(self.judged(told, puts=lists(self.PUTS)), None)

    def test_plants(self):
        for plant in (plant_of(FRACTIONS, [[1]], [[1]]), plant_of(FRACTIONS, [[1, 0], [0, 1]], [[1, 0], [0, 1]]),
                      plant_of(FRACTIONS, [[1, 0], [0, 1]], [[1], [1]]), plant_of(FRACTIONS, [[1, 2], [3, 4]], [[0], [0]])):
            self.assertEqual(self.judged(self.changed(self.told, plant=plant)), "plant")
            self.assertEqual(self.judged(self.changed(self.told, plant=plant, start=None, silent=(), other=plant)), "plant")

    def test_starts(self):
        for start in [row for row in NO_ROWS if isinstance(row, (tuple, list))] + [wholes(1), wholes(1, 2, 3)]:
            self.assertEqual(self.judged(self.changed(self.told, start=start)), "start")
            told = self.changed(self.told, start=tuple(start), silent=(), other=self.told.plant)
            self.assertEqual(self.judged(told), "start")

    def test_silent_rows(self):
        told = self.told
        wrong = [(), told.silent[:-1], told.silent + wholes(0), wholes(0, 0, 0), wholes(0, 0, 1), (1, 2, 3),
                 (told.silent[0], told.silent[1], (2, 4))]
        wrong += [told.silent[:k] + (FRACTIONS.plus(told.silent[k], (1, 1)),) + told.silent[k + 1:] for k in range(3)]
        for silent in wrong:
            self.assertEqual(self.judged(self.changed(told, silent=silent)), "silent")
            self.assertEqual(self.judged(self.changed(told, silent=list(silent), other=told.plant)), "silent")
        # Another start or other inputs are not silent either.
        self.assertEqual(self.judged(self.changed(told, start=(told.start[0], FRACTIONS.plus(told.start[1], (1, 1))))), "silent")
        self.assertEqual(self.judged(told, puts=self.PUTS[:-1] + (wholes(5),)), "silent")

    def test_the_last_ticks_count(self):
        for field in SMALL_FIELDS:
            plant, other, unlike = [plant_of(field, [[a]], [[b]]) for a, b in ((1, 1), (2, 1), (1, 2))]
            told = Unlearnt(plant, wholes(0), wholes(1, 0), other)
            self.assertIs(unlearnt_fault(field, 1, 1, (wholes(0), wholes(1)), told), None)
            # The state is 1 behind the last of two inputs, and so it is at the tick of a third one.
            self.assertEqual(unlearnt_fault(field, 1, 1, (wholes(0), wholes(1), wholes(0)), told), "silent")
            told = Unlearnt(plant, wholes(0), wholes(1, 0), unlike)
            self.assertEqual(unlearnt_fault(field, 1, 1, (wholes(0), wholes(1)), told), "other")

    def test_others(self):
        told = self.told
        for plant in (told.plant, plant_of(FRACTIONS, [[1]], [[1]]), plant_of(FRACTIONS, [[1, 0], [0, 1]], [[1, 0], [0, 1]]),
                      plant_of(FRACTIONS, [[1, 5], [3, 4]], [[1], [2]])):
            self.assertEqual(self.judged(self.changed(told, other=plant)), "other")
        # A plant with the same states that is not controllable: three times y is fed back, or none of it.
        right = 0
        for times in range(-4, 5):
            rows = []
            for row, (a, b) in enumerate(zip(told.plant.a, told.plant.b)):
                bend = sum_in(FRACTIONS, (packed(FRACTIONS, times if row == 0 else 0),), (told.silent,), 3)
                rows.append(tuple(FRACTIONS.plus(*couple) for couple in zip(a + b, bend)))
            other = Plant(FRACTIONS, [row[:2] for row in rows], [row[2:] for row in rows])
            self.assertEqual(own_run(other, told.start, self.PUTS), own_run(told.plant, told.start, self.PUTS))
            due = None if times != 0 and is_controllable(other) else "other"
            self.assertEqual(self.judged(self.changed(told, other=other)), due)
            right += due is None
        self.assertTrue(4 < right < 8, right)

    def test_by_two_the_other_plant_need_not_be_controllable(self):
        field, lame = Field(2), 0
        for size, inputs in SHAPES:
            for puts in puts_of(field, inputs):
                told = unlearnt(field, size, inputs, puts)
                if told is not None and not is_controllable(told.other):
                    lame += 1
                    self.assertIs(unlearnt_fault(field, size, inputs, puts, told), None)
        self.assertGreater(lame, 0)

    def test_whether_the_puts_are_deep_is_not_asked(self):
        told = unlearnt(FRACTIONS, 2, 1, ())
        self.assertIs(unlearnt_fault(field=FRACTIONS, size=2, inputs=1, puts=(), told=told), None)

    def test_mixed_fields_ahead_of_all(self):
        told, other = self.told, plant_of(Field(7), [[1, 2], [3, 4]], [[1], [1]])
        for wrong in (self.changed(told, plant=other), self.changed(told, other=other), Unlearnt(other, None, None, other)):
            for size, inputs, puts in ((2, 1, self.PUTS), (0, 0, None), (2, 1, None)):
                self.assertEqual(raised(unlearnt_fault, FRACTIONS, size, inputs, puts, wrong), (MixedFields, ()))
        self.assertEqual(raised(unlearnt_fault, Field(7), 2, 1, self.PUTS, told), (MixedFields, ()))


class Refusals(unittest.TestCase):
    def calls(self):
        told = unlearnt(FRACTIONS, 2, 1, ())
        return (finished_row, deep_weights, unlearnt,
                lambda field, size, inputs, puts: unlearnt_fault(field, size, inputs, puts, told))

    def test_sizes_and_inputs_first(self):
        for call in self.calls():
            for size in NO_SIZES:
                for inputs, puts in ((1, ()), (0, None), (1, [None])):
                    self.assertEqual(raised(call, FRACTIONS, size, inputs, puts), (BadAhead, ("size",)))
            for inputs in NO_INPUTS:
                for puts in ((), None, [None]):
                    self.assertEqual(raised(call, FRACTIONS, 2, inputs, puts), (BadAhead, ("inputs",)))
        for size in NO_SIZES:
            self.assertEqual(raised(made_row, FRACTIONS, size, 1), (BadAhead, ("size",)))
            self.assertEqual(raised(made_row, FRACTIONS, size, 9), (BadAhead, ("size",)))
        for inputs in NO_INPUTS:
            self.assertEqual(raised(made_row, FRACTIONS, 2, inputs), (BadAhead, ("inputs",)))
            self.assertEqual(raised(deep_rank, FRACTIONS, inputs, None, None), (BadAhead, ("inputs",)))

    def test_puts(self):
        for call in self.calls() + (lambda field, size, inputs, puts: deep_rank(field, inputs, puts, 9),):
            for puts in (None, 3, "ab", {0: wholes(1)}, iter([wholes(1)]), (wholes(1),) * 61, [None] * 61):
                self.assertEqual(raised(call, FRACTIONS, 2, 1, puts), (BadAhead, ("puts",)))
            for row in NO_ROWS:
                if not FRACTIONS.holds_row(row, 1):
                    for puts in ([row], (wholes(1), row), [wholes(1)] * 59 + [row]):
                        self.assertEqual(raised(call, FRACTIONS, 2, 1, puts), (BadRow, ("puts",)))
            self.assertEqual(raised(call, FRACTIONS, 2, 2, [wholes(1)]), (BadRow, ("puts",)))
        for call in self.calls():
            self.assertIs(raised(call, FRACTIONS, 2, 1, (wholes(1),) * 60), None)

    def test_depths(self):
        for depth in NO_DEPTHS:
            self.assertEqual(raised(deep_rank, FRACTIONS, 1, (), depth), (BadAhead, ("depth",)))
        for depth in range(1, 9):
            self.assertEqual(deep_rank(FRACTIONS, 3, (), depth), 0)

    def test_nothing_passed_in_is_changed(self):
        for call in self.calls()[:3]:
            puts = [[(1, 1)], [(2, 1)]]
            told = call(FRACTIONS, 2, 1, puts)
            self.assertEqual(puts, [[(1, 1)], [(2, 1)]])
            puts[0][0] = (9, 1)
            puts.pop()
            self.assertEqual(told, call(FRACTIONS, 2, 1, [[(1, 1)], [(2, 1)]]))
        puts, told = [[(1, 1)], [(2, 1)]], unlearnt(FRACTIONS, 2, 1, wholes_of(1, 2))
        told = Unlearnt(told.plant, list(told.start), list(told.silent), told.other)
        start, silent = list(told.start), list(told.silent)
        self.assertIs(unlearnt_fault(FRACTIONS, 2, 1, puts, told), None)
        self.assertEqual(deep_rank(FRACTIONS, 1, puts, 1), 1)
        self.assertEqual((puts, told.start, told.silent), ([[(1, 1)], [(2, 1)]], start, silent))


def wholes_of(*numbers):
    return tuple(wholes(number) for number in numbers)


if __name__ == "__main__":
    unittest.main()
