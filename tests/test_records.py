import unittest
from inspect import getattr_static
from random import Random

from measured import SHAPES, measured_rows, some_plants
from sums import FRACTIONS, NO_ROWS, SMALL_FIELDS, all_rows, all_sums, all_tuples, lies_in, lists, own_run, packed_row
from sums import raised, rank_in, sum_in, values, varied_plants, wholes
from untaughthelm.errors import BadCut, BadLot, BadRecord, BadRow, MixedFields
from untaughthelm.fields import Field
from untaughthelm.plants import Plant
from untaughthelm.records import Record
from untaughthelm.rows import unit_row, unit_table, zero_row
from untaughthelm.spans import Span

GOOD = (wholes(1, 0), wholes(1), wholes(2, 3))
EXAMPLE = ((wholes(1), wholes(0), wholes(2)), (wholes(2), wholes(1), wholes(5)), (wholes(0), wholes(2), wholes(2)))


def z_of(row):
    return row[0] + row[1]


class Making(unittest.TestCase):
    def test_attributes(self):
        for field in SMALL_FIELDS:
            for plant in some_plants(field):
                rows = measured_rows(plant, 9, 1)
                for told in (rows, tuple(rows), lists(rows), [tuple(lists(row)) for row in rows], [list(row) for row in rows]):
                    record = Record(field, plant.size, plant.inputs, told)
                    self.assertEqual((record.field, record.size, record.inputs), (field, plant.size, plant.inputs))
                    self.assertEqual(record.rows, tuple(rows))
                    self.assertTrue(all_tuples(record.rows))
                    self.assertTrue(all_tuples(record.kept))
                    self.assertEqual(record, Record(field, plant.size, plant.inputs, tuple(rows)))
        named = Record(rows=[GOOD], inputs=1, size=2, field=FRACTIONS)
        self.assertEqual(named.rows, (GOOD,))

    def test_no_rows(self):
        for size, inputs in SHAPES:
            for record in (Record(FRACTIONS, size, inputs), Record(FRACTIONS, size, inputs, ()),
                           Record(FRACTIONS, size, inputs, rows=[])):
                self.assertEqual((record.rows, record.kept, record.rank), ((), (), 0))
                self.assertEqual(record.unknowns, size * (size + inputs))
                self.assertEqual(record.span, Span(FRACTIONS, size + inputs))
                self.assertEqual((len(record), list(record)), (0, []))
                self.assertIs(record.quarrel(), None)

    def test_lists_that_change_later(self):
        rows = lists([GOOD, GOOD])
        record = Record(FRACTIONS, 2, 1, rows)
        rows[0][0][0] = rows[1][2][1] = (9, 1)
        rows[1].pop()
        rows.append(None)
        self.assertEqual(record.rows, (GOOD, GOOD))
        self.assertEqual(record.span.rows, (wholes(1, 0, 1),) * 2)

    def test_words_in_their_order(self):
        wrong_rows = (None, 3, "ab", {0: GOOD}, {GOOD}, iter([GOOD]), Record(FRACTIONS, 2, 1, [GOOD]), [None], [3],
                      ["abc"], [GOOD[:2]], [GOOD + (wholes(1),)], [{0: 1, 1: 2, 2: 3}], [()], (GOOD, None), [GOOD, ()],
                      [iter(GOOD)], [GOOD] * 31 + [None], [None] * 31)
        for size in (0, 5, -1, True, False, None, "2", 2.0, (2,)):
            for inputs in (1, 4, None):
                for rows in ((), None, [None] * 31, [GOOD] * 31, [(None, None, None)]):
                    self.assertEqual(raised(Record, FRACTIONS, size, inputs, rows), (BadRecord, ("size",)))
            self.assertEqual(raised(Record, FRACTIONS, size, 1), (BadRecord, ("size",)))
        for inputs in (0, 4, -1, True, False, None, "1", 1.0, (1,)):
            for rows in ((), None, [None] * 31, [GOOD] * 31, [(None, None, None)]):
                self.assertEqual(raised(Record, FRACTIONS, 2, inputs, rows), (BadRecord, ("inputs",)))
        for rows in wrong_rows:
            self.assertEqual(raised(Record, FRACTIONS, 2, 1, rows), (BadRecord, ("rows",)))
        self.assertEqual(raised(Record, FRACTIONS, 2, 1, [(None, None, None), None]), (BadRecord, ("rows",)))
        for row in (GOOD, (None, None, None), (wholes(1), wholes(1), wholes(1))):
            for many in (31, 40, 61):
                self.assertEqual(raised(Record, FRACTIONS, 2, 1, [row] * many), (BadRecord, ("many",)))

    def test_thirty_rows(self):
        record = Record(FRACTIONS, 2, 1, [GOOD] * 30)
        self.assertEqual((len(record), record.rank), (30, 1))
        self.assertEqual(raised(record.with_row, *GOOD), (BadRecord, ("many",)))
        self.assertEqual(raised(record.with_row, None, None, None), (BadRecord, ("many",)))
        self.assertEqual(len(Record(FRACTIONS, 2, 1, [GOOD] * 29).with_row(*GOOD)), 30)

    def test_wrong_states_inputs_and_replies(self):
        x, u, y = GOOD
        for row in NO_ROWS:
            for told, what in (((row, u, y), "x"), ((row, row, row), "x"), ((row, u, row), "x"), ((x, row, y), "u"),
                               ((x, row, row), "u"), ((x, u, row), "y"), ([x, u, row], "y")):
                if what == "u" and row == ((1, 1),):
                    continue
                self.assertEqual(raised(Record, FRACTIONS, 2, 1, [told]), (BadRow, (what,)), told)
                self.assertEqual(raised(Record, FRACTIONS, 2, 1, (GOOD, told)), (BadRow, (what,)), told)
                self.assertEqual(raised(Record, FRACTIONS, 2, 1, (GOOD, told, (None, None, None))), (BadRow, (what,)))
                self.assertEqual(raised(Record(FRACTIONS, 2, 1, [GOOD]).with_row, *told), (BadRow, (what,)))
        self.assertEqual(raised(Record, FRACTIONS, 2, 1, [(x, wholes(1, 1), y)]), (BadRow, ("u",)))
        self.assertEqual(raised(Record, FRACTIONS, 2, 1, [(x, u, None), (None, u, y)]), (BadRow, ("y",)))
        for row in (wholes(7), wholes(-1), ((1, 2),)):
            for place, what in enumerate("xuy"):
                told = [wholes(1)] * 3
                told[place] = row
                self.assertEqual(raised(Record, Field(7), 1, 1, [told]), (BadRow, (what,)))

    def test_equal_and_unlike(self):
        record = Record(FRACTIONS, 1, 1, EXAMPLE)
        self.assertTrue(record == Record(Field(), 1, 1, lists(EXAMPLE)))
        self.assertFalse(record != Record(Field(), 1, 1, lists(EXAMPLE)))
        grown = Record(FRACTIONS, 1, 1)
        for row in EXAMPLE:
            self.assertTrue(grown != record)
            grown = grown.with_row(*row)
        self.assertTrue(grown == record)
        for other in (Record(Field(7), 1, 1, EXAMPLE), Record(FRACTIONS, 1, 1, EXAMPLE[::-1]),
                      Record(FRACTIONS, 1, 1, EXAMPLE[:2]), Record(FRACTIONS, 1, 1, EXAMPLE + EXAMPLE[:1]),
                      EXAMPLE, list(EXAMPLE), None, FRACTIONS, record.span, object()):
            self.assertFalse(record == other)
            self.assertFalse(other == record)
            self.assertTrue(record != other)
            self.assertTrue(other != record)
        self.assertTrue(Record(FRACTIONS, 1, 1) != Record(FRACTIONS, 2, 1))
        self.assertTrue(Record(FRACTIONS, 1, 1) != Record(FRACTIONS, 1, 2))
        self.assertTrue(Record(FRACTIONS, 2, 1) != Record(FRACTIONS, 1, 2))
        self.assertTrue(Record(FRACTIONS, 1, 1) != Record(Field(2), 1, 1))

    def test_len_and_iteration(self):
        record = Record(FRACTIONS, 1, 1, EXAMPLE)
        self.assertEqual(len(record), 3)
        self.assertEqual(list(record), list(EXAMPLE))
        self.assertEqual([x for x, u, y in record], [row[0] for row in EXAMPLE])
        self.assertEqual(list(zip(record, record)), list(zip(EXAMPLE, EXAMPLE)))
        self.assertIn(EXAMPLE[1], record)
        first, second, third = record
        self.assertEqual((first, second, third), EXAMPLE)


class Knowing(unittest.TestCase):
    def test_every_beginning(self):
        for field in SMALL_FIELDS:
            for plant in some_plants(field):
                rows = measured_rows(plant, 12, plant.size + plant.inputs)
                last = 0
                for many in range(len(rows) + 1):
                    record = Record(field, plant.size, plant.inputs, rows[:many])
                    kept = [row for k, row in enumerate(rows[:many])
                            if not lies_in(field, [z_of(old) for old in rows[:k]] + [zero_row(len(z_of(row)))], z_of(row))]
                    self.assertEqual(record.kept, tuple(kept))
                    self.assertEqual(record.rank, len(kept))
                    self.assertEqual(record.rank, rank_in(field, [z_of(row) for row in rows[:many]]))
                    self.assertEqual(record.span, Span(field, plant.size + plant.inputs, [z_of(row) for row in rows[:many]]))
                    self.assertEqual(record.unknowns, plant.size * (plant.size + plant.inputs - len(kept)))
                    self.assertTrue(last <= record.rank <= plant.size + plant.inputs)
                    last = record.rank

    def test_unknowns_is_a_property(self):
        self.assertIsInstance(getattr_static(Record, "unknowns"), property)
        self.assertIs(type(Record(FRACTIONS, 1, 1).unknowns), int)

    def test_with_row_leaves_the_old_one(self):
        record = Record(FRACTIONS, 1, 1, EXAMPLE[:1])
        x, u, y = [(2, 1)], [(1, 1)], [(5, 1)]
        longer = record.with_row(x, u, y)
        x[0] = u[0] = y[0] = (9, 1)
        self.assertEqual(longer.rows, EXAMPLE[:2])
        self.assertEqual((record.rows, record.rank, len(record)), (EXAMPLE[:1], 1, 1))
        self.assertEqual((longer.rank, longer.kept), (2, EXAMPLE[:2]))
        self.assertEqual(record.with_row(y=EXAMPLE[1][2], u=EXAMPLE[1][1], x=EXAMPLE[1][0]), longer)

    def test_weights(self):
        for field in SMALL_FIELDS:
            for plant in some_plants(field):
                size, inputs = plant.size, plant.inputs
                for many in (0, 1, 3, 6, 12):
                    rows = measured_rows(plant, many, 5)
                    record = Record(field, size, inputs, rows)
                    zs = [z_of(row) for row in rows]
                    asked = [zero_row(size + inputs), packed_row(field, values(many, size + inputs, field))] + zs[:3]
                    asked.append(sum_in(field, packed_row(field, values(8, many, field)), zs, size + inputs))
                    for z in asked:
                        told = record.weights(z[:size], z[size:])
                        self.assertEqual(record.weights(list(z[:size]), list(z[size:])), told)
                        self.assertEqual(told is not None, lies_in(field, zs + [zero_row(size + inputs)], z))
                        if told is not None:
                            self.assertTrue(all_tuples(told))
                            self.assertEqual(len(told), many)
                            self.assertEqual(sum_in(field, told, zs, size + inputs), z)
                            for weight, place in zip(told, range(many)):
                                self.assertTrue(weight == (0, 1) or place in record.span.kept)

    def test_weights_against_all_sums(self):
        for prime in (2, 3):
            for seed in range(8):
                source = Random(seed)
                rows = [tuple(tuple((source.randrange(prime), 1) for _ in range(width)) for width in (2, 1, 2))
                        for _ in range(seed % 4)]
                record = Record(Field(prime), 2, 1, rows)
                sums = all_sums(prime, 3, [z_of(row) for row in rows])
                for z in all_rows(prime, 3):
                    self.assertEqual(record.weights(z[:2], z[2:]) is not None, z in sums)

    def test_weights_refuse(self):
        record = Record(FRACTIONS, 2, 2, [(wholes(1, 0), wholes(1, 1), wholes(0, 0))])
        for row in NO_ROWS:
            self.assertEqual(raised(record.weights, row, row), (BadRow, ("x",)))
            self.assertEqual(raised(record.weights, row, wholes(1, 1)), (BadRow, ("x",)))
            self.assertEqual(raised(record.weights, wholes(1, 1), row), (BadRow, ("u",)))

    def test_the_example(self):
        record = Record(FRACTIONS, 1, 1, EXAMPLE)
        self.assertEqual((record.rank, record.kept, record.unknowns), (2, EXAMPLE[:2], 0))
        self.assertEqual(record.weights(wholes(0), wholes(2)), wholes(-4, 2, 0))
        self.assertIs(record.quarrel(), None)
        quarrelling = Record(FRACTIONS, 1, 1, EXAMPLE[:2] + ((wholes(0), wholes(2), wholes(3)),))
        self.assertEqual(quarrelling.quarrel(), wholes(4, -2, 1))


class Quarrels(unittest.TestCase):
    def own_quarrel(self, record):
        """What [5.6] asks for, row by row."""
        field, rows, kept = record.field, record.rows, []
        width = record.size + record.inputs
        for k, (x, u, y) in enumerate(rows):
            if not lies_in(field, [z_of(rows[place]) for place in kept] + [zero_row(width)], x + u):
                kept.append(k)
                continue
            weights = Record(field, record.size, record.inputs, [rows[place] for place in kept]).weights(x, u)
            if sum_in(field, weights, [rows[place][2] for place in kept], record.size) != y:
                told = [(0, 1)] * len(rows)
                told[k] = (1, 1)
                for place, weight in zip(kept, weights):
                    told[place] = field.negative(weight)
                return tuple(told)
        return None

    def test_records_of_plants_do_not_quarrel(self):
        for field in SMALL_FIELDS:
            for plant in some_plants(field):
                for seed in range(3):
                    record = Record(field, plant.size, plant.inputs, measured_rows(plant, 10, seed))
                    self.assertIs(record.quarrel(), None)

    def test_one_wrong_row_or_more(self):
        seen = 0
        for field in SMALL_FIELDS:
            for plant in some_plants(field):
                for seed in range(4):
                    rows = measured_rows(plant, 10, seed)
                    for wrong in ((3,), (9,), (0, 7), (5, 6, 8), (9, 2)):
                        told = list(rows)
                        for place in wrong:
                            x, u, y = told[place]
                            told[place] = x, u, tuple(field.plus(part, (1, 1)) for part in y)
                        record = Record(field, plant.size, plant.inputs, told)
                        weights = record.quarrel()
                        self.assertEqual(weights, self.own_quarrel(record))
                        if weights is not None:
                            seen += 1
                            self.assertTrue(all_tuples(weights))
                            zs = [z_of(row) for row in told]
                            self.assertEqual(sum_in(field, weights, zs, len(zs[0])), zero_row(len(zs[0])))
                            replies = [row[2] for row in told]
                            self.assertNotEqual(sum_in(field, weights, replies, plant.size), zero_row(plant.size))
        self.assertGreater(seen, 100)

    def test_all_small_records(self):
        source = Random(2)
        for prime in (2, 3):
            for _ in range(120):
                rows = [tuple(((source.randrange(prime), 1),) for _ in range(3)) for _ in range(source.randrange(5))]
                record = Record(Field(prime), 1, 1, rows)
                fits = [(a, b) for a in range(prime) for b in range(prime)
                        if all((a * x[0][0] + b * u[0][0] - y[0][0]) % prime == 0 for x, u, y in rows)]
                self.assertEqual(record.quarrel() is None, fits != [])
                self.assertEqual(record.quarrel(), self.own_quarrel(record))
                if fits:
                    self.assertEqual(prime ** record.unknowns, len(fits))

    def test_a_row_of_zeros_quarrels_by_itself(self):
        for field in SMALL_FIELDS:
            zeros = (zero_row(2), zero_row(1), wholes(0, 1))
            self.assertEqual(Record(field, 2, 1, [zeros]).quarrel(), wholes(1))
            good = (wholes(1, 0), wholes(1), wholes(1, 1))
            self.assertEqual(Record(field, 2, 1, [good, zeros, good]).quarrel(), wholes(0, 1, 0))
            self.assertIs(Record(field, 2, 1, [good, (zero_row(2), zero_row(1), zero_row(2))]).quarrel(), None)

    def test_equal_rows(self):
        row, other = (wholes(1), wholes(2), wholes(3)), (wholes(1), wholes(2), wholes(4))
        self.assertIs(Record(FRACTIONS, 1, 1, [row, row, row]).quarrel(), None)
        self.assertEqual(Record(FRACTIONS, 1, 1, [row, row, other]).quarrel(), wholes(-1, 0, 1))
        self.assertEqual(Record(FRACTIONS, 1, 1, [other, row, other]).quarrel(), wholes(-1, 1, 0))

    def test_only_the_last_place_of_a_reply(self):
        rows = [(wholes(1, 0), wholes(0), wholes(1, 2)), (wholes(2, 0), wholes(0), wholes(2, 5))]
        self.assertEqual(Record(FRACTIONS, 2, 1, rows).quarrel(), wholes(-2, 1))

    def test_rows_behind_a_quarrel(self):
        rows = EXAMPLE[:2] + ((wholes(0), wholes(2), wholes(3)),)
        record = Record(FRACTIONS, 1, 1, rows)
        for row in EXAMPLE + ((wholes(0), wholes(0), wholes(9)), (wholes(1), wholes(1), wholes(9))):
            record = record.with_row(*row)
            self.assertEqual(record.quarrel(), wholes(4, -2, 1) + zero_row(len(record) - 3))
        late = Record(FRACTIONS, 1, 1, [(wholes(1), wholes(0), wholes(2)), (wholes(1), wholes(0), wholes(3)),
                                        (wholes(0), wholes(1), wholes(1))])
        self.assertEqual((late.quarrel(), late.rank), (wholes(-1, 1, 0), 2))
        self.assertEqual(late.weights(wholes(1), wholes(1)), wholes(1, 0, 1))


class Parts(unittest.TestCase):
    record = Record(FRACTIONS, 1, 1, EXAMPLE)

    def test_joined(self):
        other = Record(FRACTIONS, 1, 1, [(wholes(9), wholes(9), wholes(9)), EXAMPLE[0]])
        self.assertEqual(self.record.joined(other), Record(FRACTIONS, 1, 1, self.record.rows + other.rows))
        self.assertEqual(other.joined(self.record).rows, other.rows + EXAMPLE)
        self.assertEqual(self.record.joined(self.record).rows, EXAMPLE * 2)
        empty = Record(FRACTIONS, 1, 1)
        self.assertEqual((empty.joined(self.record), self.record.joined(other=empty)), (self.record, self.record))
        self.assertEqual((len(self.record), len(other)), (3, 2))

    def test_joined_refuses(self):
        many, most = Record(FRACTIONS, 1, 1, EXAMPLE[:1] * 28), Record(FRACTIONS, 1, 1, EXAMPLE[:1] * 27)
        self.assertEqual(raised(self.record.joined, many), (BadRecord, ("many",)))
        self.assertEqual(raised(many.joined, self.record), (BadRecord, ("many",)))
        self.assertEqual(len(most.joined(self.record)), 30)
        self.assertEqual(raised(self.record.joined, Record(FRACTIONS, 2, 1)), (BadRecord, ("size",)))
        self.assertEqual(raised(self.record.joined, Record(FRACTIONS, 1, 2)), (BadRecord, ("inputs",)))
        self.assertEqual(raised(self.record.joined, Record(FRACTIONS, 2, 2, [(wholes(1, 1),) * 3] * 28)),
                         (BadRecord, ("size",)))
        self.assertEqual(raised(self.record.joined, Record(FRACTIONS, 1, 2, [(wholes(1), wholes(1, 1), wholes(1))] * 28)),
                         (BadRecord, ("inputs",)))
        for other in (Record(Field(7), 1, 1), Record(Field(7), 2, 2), Record(Field(7), 1, 1, [(wholes(1),) * 3] * 28)):
            self.assertEqual(raised(self.record.joined, other), (MixedFields, ()))
            self.assertEqual(raised(other.joined, self.record), (MixedFields, ()))

    def test_cut(self):
        for low in range(4):
            for high in range(low, 4):
                self.assertEqual(self.record.cut(low, high), Record(FRACTIONS, 1, 1, EXAMPLE[low:high]))
        self.assertEqual(self.record.cut(high=2, low=1).rows, EXAMPLE[1:2])
        self.assertEqual(self.record.rows, EXAMPLE)
        for low, high in ((-1, 2), (2, 1), (0, 4), (4, 4), (-2, -1), (True, 2), (0, True), (False, 2), (None, 2),
                          (0, None), ("0", 2), (0, 2.0), (1.0, 2), (0, "2"), ((0,), 2), (3, 2), (None, None)):
            self.assertEqual(raised(self.record.cut, low, high), (BadCut, (high, low)))
        self.assertEqual(raised(Record(FRACTIONS, 1, 1).cut, 0, 1), (BadCut, (1, 0)))
        self.assertEqual(Record(FRACTIONS, 1, 1).cut(0, 0), Record(FRACTIONS, 1, 1))

    def test_without(self):
        for lot in ((), (0,), (1,), (2,), (0, 1), (0, 2), (1, 2), (0, 1, 2)):
            due = tuple(row for place, row in enumerate(EXAMPLE) if place not in lot)
            self.assertEqual(self.record.without(lot), Record(FRACTIONS, 1, 1, due))
            self.assertEqual(self.record.without(list(lot)), Record(FRACTIONS, 1, 1, due))
        self.assertEqual(self.record.without(lot=[1]).rank, 2)
        self.assertEqual(self.record.rows, EXAMPLE)
        equal = Record(FRACTIONS, 1, 1, EXAMPLE[:1] * 3)
        self.assertEqual(equal.without((1,)).rows, EXAMPLE[:1] * 2)

    def test_without_refuses(self):
        for lot in (None, 1, "01", {0: 1}, {0}, iter([0]), (3,), (-1,), (0, 0), (1, 0), (0, 2, 1), (0, 3), (True,), (False,),
                    (None,), ("0",), (0.0,), ((0,),), [0, 1, 1], range(2), (0, True)):
            self.assertEqual(raised(self.record.without, lot), (BadLot, (lot,)))
        wrong = [5]
        with self.assertRaises(BadLot) as caught:
            self.record.without(wrong)
        self.assertIs(caught.exception.lot, wrong)
        self.assertEqual(raised(Record(FRACTIONS, 1, 1).without, (0,)), (BadLot, ((0,),)))
        self.assertEqual(Record(FRACTIONS, 1, 1).without([]), Record(FRACTIONS, 1, 1))

    def test_of_run(self):
        for field in SMALL_FIELDS:
            for plant in varied_plants(field):
                start = packed_row(field, values(2, plant.size, field))
                puts = [packed_row(field, values(k, plant.inputs, field)) for k in range(6)]
                states = own_run(plant, start, puts)
                record = Record.of_run(plant, start, puts)
                self.assertEqual(record, Record(field, plant.size, plant.inputs, list(zip(states, puts, states[1:]))))
                self.assertIsInstance(record, Record)
                self.assertEqual(Record.of_run(plant, list(start), lists(puts)), record)
                self.assertEqual(Record.of_run(puts=tuple(puts), start=start, plant=plant), record)
                self.assertTrue(all_tuples(record.rows))
                self.assertIs(record.quarrel(), None)
                self.assertEqual(Record.of_run(plant, start, []), Record(field, plant.size, plant.inputs))
                self.assertEqual(record.of_run(plant, start, puts), record)

    def test_of_run_refuses(self):
        plant = Plant(FRACTIONS, unit_table(2), unit_table(2))
        right = unit_row(2, 0)
        for row in NO_ROWS:
            for puts in ([], None, [row], [right] * 31):
                self.assertEqual(raised(Record.of_run, plant, row, puts), (BadRow, ("start",)))
            self.assertEqual(raised(Record.of_run, plant, right, [row]), (BadRow, ("puts",)))
            self.assertEqual(raised(Record.of_run, plant, right, [right] * 31 + [row]), (BadRow, ("puts",)))
        for puts in (None, 3, "ab", {}, {right}, iter([right])):
            self.assertEqual(raised(Record.of_run, plant, right, puts), (BadRow, ("puts",)))
        for many in (31, 60):
            self.assertEqual(raised(Record.of_run, plant, right, [right] * many), (BadRecord, ("many",)))
        self.assertEqual(len(Record.of_run(plant, right, [right] * 30)), 30)


if __name__ == "__main__":
    unittest.main()
