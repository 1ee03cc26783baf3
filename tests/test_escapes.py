import unittest

from measured import counted_records, record_of, some_plants
from sums import FRACTIONS, SMALL_FIELDS, all_rows, all_sums, all_tuples, dots, echelon_of, is_controllable, lies_in
from sums import own_reply, plant_of, product_in, raised, rank_in, varied_plants, wholes
from untaughthelm.errors import NoFit
from untaughthelm.escapes import Escape, falling, find_escape
from untaughthelm.fields import Field
from untaughthelm.plants import Plant
from untaughthelm.records import Record
from untaughthelm.rows import unit_table, zero_row
from untaughthelm.unlike import fitting_plant

ONE_ROW = Record(FRACTIONS, 1, 1, [(wholes(1), wholes(0), wholes(2))])
QUARREL = ONE_ROW.with_row(wholes(1), wholes(0), wholes(3))


def many_records():
    """Records of plants of all sizes, of no rows up to thirty."""
    for field in SMALL_FIELDS:
        for plant in list(some_plants(field)) + list(varied_plants(field)):
            for many in (0, 1, 2, 3, 5, 9):
                yield record_of(plant, many, 7)
        yield record_of(plant, 30, 7)


def check_led_plant(case, record, plant, rows, table):
    """The equations that an Escape and a Shadow have in common."""
    field, many = record.field, len(rows)
    case.assertTrue(all_tuples(rows))
    case.assertTrue(all_tuples(table))
    case.assertEqual([len(row) for row in table], [many] * many)
    case.assertIsInstance(plant, Plant)
    case.assertEqual((plant.field, plant.size, plant.inputs), (field, record.size, record.inputs))
    for x, u, y in record.rows:
        seen = [dots(field, row, x) for row in rows]
        case.assertEqual([dots(field, row, y) for row in rows], [dots(field, line, seen) for line in table])
        case.assertEqual(own_reply(plant, x, u), y)
    case.assertEqual(product_in(field, rows, plant.a, plant.size), product_in(field, table, rows, plant.size))
    case.assertEqual(product_in(field, rows, plant.b, plant.inputs), (zero_row(plant.inputs),) * many)


class Falling(unittest.TestCase):
    def check_form(self, record, chain):
        self.assertTrue(all_tuples(chain))
        self.assertEqual(chain[0], unit_table(record.size))
        self.assertLessEqual(len(chain), record.size + 1)
        for space, below in zip(chain, chain[1:]):
            self.assertLess(len(below), len(space))
            self.assertTrue(all(lies_in(record.field, space, row) for row in below))
        for space in chain:
            self.assertEqual(space, echelon_of(record.field, space))

    def test_by_its_rule_against_all_rows(self):
        for record, _ in counted_records():
            prime, size = record.field.prime, record.size
            due = [set(all_rows(prime, size))]
            while len(due[-1]) > 1:
                seen = {tuple(dots(record.field, v, x) for x, u, y in record.rows) for v in due[-1]}
                below = {w for w in due[-1] if tuple(dots(record.field, w, y) for x, u, y in record.rows) in seen}
                if below == due[-1]:
                    break
                due.append(below)
            chain = falling(record)
            self.check_form(record, chain)
            self.assertEqual([all_sums(prime, size, space) for space in chain], due)

    def test_by_its_rule_and_ranks(self):
        for record in many_records():
            field = record.field
            chain = falling(record)
            self.check_form(record, chain)
            for space, below in zip(chain, chain[1:] + (chain[-1],)):
                seen = [tuple(dots(field, w, x) for x, u, y in record.rows) for w in space]
                due = [tuple(dots(field, w, y) for x, u, y in record.rows) for w in space]
                # Of all couples (w, v) with w y = v x those with w = 0 are taken away.
                self.assertEqual(len(below), len(space) - rank_in(field, due + seen) + rank_in(field, seen))
                for w in below:
                    self.assertTrue(lies_in(field, seen, tuple(dots(field, w, y) for x, u, y in record.rows)))

    def test_no_rows(self):
        for field in SMALL_FIELDS:
            for size in (1, 2, 3, 4):
                for inputs in (1, 2, 3):
                    self.assertEqual(falling(Record(field, size, inputs)), (unit_table(size),))

    def test_rows_of_zeros(self):
        record = Record(FRACTIONS, 2, 1, [(wholes(0, 0), wholes(0), wholes(0, 0))] * 2)
        self.assertEqual(falling(record), (unit_table(2),))

    def test_by_hand(self):
        self.assertEqual(falling(ONE_ROW), ((wholes(1),),))
        self.assertEqual(falling(record=ONE_ROW.with_row(wholes(1), wholes(1), wholes(3))), ((wholes(1),), ()))
        # An integrator behind an integrator: the input is seen, then what it moves, then what that moves.
        plant = plant_of(FRACTIONS, [[1, 1, 0], [0, 1, 1], [0, 0, 1]], [[0], [0], [1]])
        start = wholes(1, 2, 5)
        record = Record.of_run(plant, start, [wholes(1), wholes(0), wholes(3), wholes(7)])
        self.assertEqual(falling(record), (unit_table(3), (wholes(1, 0, 0), wholes(0, 1, 0)), (wholes(1, 0, 0),), ()))


class Escapes(unittest.TestCase):
    def check(self, record):
        told = find_escape(record)
        rows = falling(record)[-1]
        if rows == ():
            self.assertIs(told, None)
            return None
        self.assertIsInstance(told, Escape)
        self.assertEqual(told.rows, rows)
        check_led_plant(self, record, told.plant, told.rows, told.table)
        self.assertFalse(is_controllable(told.plant))
        return told

    def test_against_all_plants_that_fit(self):
        found = {True: 0, False: 0}
        for record, fits in counted_records():
            told = self.check(record)
            controllable = all(is_controllable(plant) for plant in fits)
            self.assertEqual(told is None, controllable)
            if told is not None:
                self.assertIn(told.plant, fits)
            found[controllable] += 1
        self.assertGreater(min(found.values()), 8)

    def test_records_of_all_sizes(self):
        found = {True: 0, False: 0}
        for record in many_records():
            told = self.check(record)
            found[told is None] += 1
            if told is None:
                self.assertTrue(is_controllable(fitting_plant(record)))
            elif record.unknowns == 0:
                self.assertEqual(told.plant, fitting_plant(record))
        self.assertGreater(min(found.values()), 100)

    def test_no_rows(self):
        for field in SMALL_FIELDS:
            for size in (1, 2, 3, 4):
                for inputs in (1, 2, 3):
                    told = self.check(Record(field, size, inputs))
                    self.assertEqual(told.rows, unit_table(size))

    def test_rows_of_zeros(self):
        self.check(Record(Field(3), 2, 1, [(wholes(0, 0), wholes(0), wholes(0, 0))] * 2))

    def test_the_examples(self):
        told = find_escape(record=ONE_ROW)
        self.assertEqual(told, Escape(plant_of(FRACTIONS, [[2]], [[0]]), (wholes(1),), (wholes(2),)))
        self.assertIs(find_escape(ONE_ROW.with_row(wholes(1), wholes(1), wholes(3))), None)

    def test_rows_that_are_no_unit_rows(self):
        plant = plant_of(FRACTIONS, [[1, 1], [1, 1]], [[2], [1]])
        record = record_of(plant, 6, 1)
        self.assertEqual(find_escape(record), None)
        plant = plant_of(FRACTIONS, [[3, -4], [1, -2]], [[4], [1]])
        record = record_of(plant, 6, 1)
        self.assertEqual(find_escape(record), Escape(plant, (wholes(1, -4),), (wholes(-1),)))

    def test_quarrels(self):
        self.assertEqual(raised(falling, QUARREL), (NoFit, ()))
        self.assertEqual(raised(find_escape, QUARREL), (NoFit, ()))


class Results(unittest.TestCase):
    def test_it_keeps_the_very_things(self):
        things = [object(), [[1]], [object()]]
        told = Escape(*things)
        self.assertTrue(told.plant is things[0] and told.rows is things[1] and told.table is things[2])
        told = Escape(table=3, rows=2, plant=1)
        self.assertEqual((told.plant, told.rows, told.table), (1, 2, 3))
        self.assertIs(Escape(None, None, None).plant, None)

    def test_equal_and_unlike(self):
        plant = plant_of(FRACTIONS, [[2]], [[0]])
        told = Escape(plant, (wholes(1),), (wholes(2),))
        self.assertTrue(told == Escape(plant_of(Field(), [[2]], [[0]]), (wholes(1),), (wholes(2),)))
        self.assertFalse(told != Escape(plant, (wholes(1),), (wholes(2),)))
        for other in (Escape(plant_of(FRACTIONS, [[3]], [[0]]), told.rows, told.table),
                      Escape(plant, (wholes(2),), told.table), Escape(plant, told.rows, (wholes(1),)),
                      (plant, told.rows, told.table), None, plant, object()):
            self.assertFalse(told == other)
            self.assertFalse(other == told)
            self.assertTrue(told != other)
            self.assertTrue(other != told)


if __name__ == "__main__":
    unittest.main()
