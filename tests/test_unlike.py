import unittest
from itertools import product

from measured import SHAPES, counted_records, record_of, some_plants
from sums import FRACTIONS, NO_ROWS, SMALL_FIELDS, all_rows, all_tuples, dots, echelon_of, lies_in, lists, own_reply
from sums import packed_row, plant_of, raised, sum_in, value_table, values, wholes
from untaughthelm.errors import BadRecord, BadRow, MixedFields, NoFit
from untaughthelm.fields import Field
from untaughthelm.plants import Plant
from untaughthelm.records import Record
from untaughthelm.rows import unit_row, zero_row
from untaughthelm.unlike import fitting_plant, missed, reply, unlike

ONE_ROW = Record(FRACTIONS, 1, 1, [(wholes(1), wholes(0), wholes(2))])
QUARREL = Record(FRACTIONS, 2, 1, [(wholes(1, 0), wholes(1), wholes(0, 0)), (wholes(1, 0), wholes(1), wholes(0, 1))])


def joint_rows(plant):
    return [a + b for a, b in zip(plant.a, plant.b)]


class Missing(unittest.TestCase):
    def test_missed(self):
        for field in SMALL_FIELDS:
            for plant in some_plants(field):
                record = record_of(plant, 8, 2)
                self.assertEqual(missed(record, plant), ())
                for lot in ((), (0,), (7,), (2, 5), (0, 1, 6), tuple(range(8))):
                    rows = [(x, u, tuple(field.plus(part, (1, 1)) for part in y[:1]) + y[1:]) if place in lot else (x, u, y)
                            for place, (x, u, y) in enumerate(record.rows)]
                    wrong = Record(field, plant.size, plant.inputs, rows)
                    self.assertEqual(missed(wrong, plant), lot)
                    self.assertTrue(all_tuples(missed(plant=plant, record=wrong)))

    def test_only_the_last_place_is_missed(self):
        plant = plant_of(FRACTIONS, [[1, 0], [0, 1]], [[0], [0]])
        record = Record(FRACTIONS, 2, 1, [(wholes(1, 2), wholes(1), wholes(1, 3)), (wholes(1, 2), wholes(1), wholes(1, 2))])
        self.assertEqual(missed(record, plant), (0,))

    def test_small_records(self):
        for record, _ in counted_records():
            if record.size + record.inputs == 2:
                prime = record.field.prime
                for a, b in product(range(prime), repeat=2):
                    plant = Plant(record.field, [wholes(a)], [wholes(b)])
                    due = tuple(k for k, (x, u, y) in enumerate(record.rows)
                                if (a * x[0][0] + b * u[0][0] - y[0][0]) % prime)
                    self.assertEqual(missed(record, plant), due)

    def test_records_that_quarrel_or_have_no_rows(self):
        self.assertEqual(missed(QUARREL, plant_of(FRACTIONS, [[0, 0], [0, 0]], [[0], [0]])), (1,))
        self.assertEqual(missed(Record(FRACTIONS, 1, 1), plant_of(FRACTIONS, [[5]], [[1]])), ())

    def test_errors_in_order(self):
        for size, inputs, error in ((2, 2, ("size",)), (2, 1, ("size",)), (1, 2, ("inputs",)), (1, 3, ("inputs",))):
            plant = plant_of(FRACTIONS, [[1] * size] * size, [[1] * inputs] * size)
            self.assertEqual(raised(missed, ONE_ROW, plant), (BadRecord, error))
            plant = plant_of(Field(7), [[1] * size] * size, [[1] * inputs] * size)
            self.assertEqual(raised(missed, ONE_ROW, plant), (MixedFields, ()))
        self.assertEqual(raised(missed, ONE_ROW, plant_of(Field(7), [[1]], [[1]])), (MixedFields, ()))


class Fitting(unittest.TestCase):
    def test_it_fits_and_has_zeros_at_the_free_unknowns(self):
        for field in SMALL_FIELDS:
            for plant in some_plants(field):
                for many in (0, 1, 2, 3, 5, 12):
                    record = record_of(plant, many, 3)
                    told = fitting_plant(record)
                    self.assertEqual((told.field, told.size, told.inputs), (field, plant.size, plant.inputs))
                    for x, u, y in record.rows:
                        self.assertEqual(own_reply(told, x, u), y)
                    # The unknowns that are not free are the leading places of the z.
                    leads = [[number != (0, 1) for number in row].index(True)
                             for row in echelon_of(field, [x + u for x, u, y in record.rows])]
                    for row in joint_rows(told):
                        self.assertTrue(all(number == (0, 1) for k, number in enumerate(row) if k not in leads))
                    if record.unknowns == 0:
                        self.assertEqual(told, plant)

    def test_against_all_plants(self):
        for record, fits in counted_records():
            self.assertIn(fitting_plant(record=record), fits)

    def test_no_rows_or_zeros_alone(self):
        for field in SMALL_FIELDS:
            for size, inputs in SHAPES:
                zeros = Plant(field, [zero_row(size)] * size, [zero_row(inputs)] * size)
                self.assertEqual(fitting_plant(Record(field, size, inputs)), zeros)
                row = (zero_row(size), zero_row(inputs), zero_row(size))
                self.assertEqual(fitting_plant(Record(field, size, inputs, [row, row])), zeros)

    def test_by_hand(self):
        record = Record(FRACTIONS, 1, 2, [(wholes(2), wholes(4, 1), wholes(6)), (wholes(1), wholes(2, 3), wholes(8))])
        self.assertEqual(fitting_plant(record), plant_of(FRACTIONS, [[2]], [[0, 2]]))

    def test_thirty_rows(self):
        for field in SMALL_FIELDS:
            plant = plant_of(field, value_table(1, 4, 4, field), value_table(2, 4, 3, field))
            record = record_of(plant, 30, 1)
            if record.unknowns == 0:
                self.assertEqual(fitting_plant(record), plant)
            self.assertEqual(missed(record, fitting_plant(record)), ())

    def test_no_fit(self):
        self.assertEqual(raised(fitting_plant, QUARREL), (NoFit, ()))


class Replies(unittest.TestCase):
    def test_against_all_plants_that_fit(self):
        for record, fits in counted_records():
            prime, size = record.field.prime, record.size
            for z in all_rows(prime, size + record.inputs):
                found = {own_reply(plant, z[:size], z[size:]) for plant in fits}
                told = reply(record, z[:size], list(z[size:]))
                self.assertEqual(told, found.pop() if len(found) == 1 else None)
                self.assertEqual(unlike(record, list(z[:size]), z[size:]) is None, told is not None)

    def test_sums_of_rows(self):
        for field in SMALL_FIELDS:
            for plant in some_plants(field):
                size, width = plant.size, plant.size + plant.inputs
                for many in (1, 3, 8):
                    record = record_of(plant, many, 4)
                    zs = [x + u for x, u, y in record.rows]
                    z = sum_in(field, packed_row(field, values(11, many, field)), zs, width)
                    told = reply(record, z[:size], z[size:])
                    self.assertEqual(told, own_reply(plant, z[:size], z[size:]))
                    self.assertTrue(all_tuples(told))
                    for z in (unit_row(width, 0), unit_row(width, width - 1), packed_row(field, values(5, width, field))):
                        told = reply(u=z[size:], x=z[:size], record=record)
                        sure = lies_in(field, zs + [zero_row(width)], z)
                        self.assertEqual(told, own_reply(plant, z[:size], z[size:]) if sure else None)

    def test_zeros_have_a_sure_reply(self):
        for size, inputs in SHAPES:
            record = Record(FRACTIONS, size, inputs)
            self.assertEqual(reply(record, zero_row(size), zero_row(inputs)), zero_row(size))
            self.assertIs(unlike(record, zero_row(size), zero_row(inputs)), None)
            self.assertIs(reply(record, unit_row(size, 0), zero_row(inputs)), None)

    def test_the_examples(self):
        self.assertEqual(reply(ONE_ROW, wholes(3), wholes(0)), wholes(6))
        self.assertIs(reply(ONE_ROW, wholes(0), wholes(1)), None)


class Unlike(unittest.TestCase):
    def check(self, record, x, u):
        told = unlike(record, x, u)
        if reply(record, x, u) is not None:
            self.assertIs(told, None)
            return
        self.assertIsInstance(told, tuple)
        plant, other = told
        self.assertEqual(plant, fitting_plant(record))
        self.assertIsInstance(other, Plant)
        field = record.field
        rows = [tuple(field.minus(b, a) for a, b in zip(*couple)) for couple in zip(joint_rows(plant), joint_rows(other))]
        self.assertEqual(rows, rows[:1] * record.size)
        for state, put, y in record.rows:
            self.assertEqual(dots(field, rows[0], state + put), (0, 1))
            self.assertEqual(own_reply(other, state, put), y)
        self.assertEqual(dots(field, rows[0], tuple(x) + tuple(u)), (1, 1))
        self.assertNotEqual(own_reply(plant, x, u), own_reply(other, x, u))

    def test_small_records(self):
        for record, _ in counted_records():
            for z in all_rows(record.field.prime, record.size + record.inputs):
                self.check(record, z[:record.size], z[record.size:])

    def test_all_sizes(self):
        for field in SMALL_FIELDS:
            for plant in some_plants(field):
                width = plant.size + plant.inputs
                for many in (0, 1, 2, 4, 7, 12):
                    record = record_of(plant, many, 6)
                    for z in (unit_row(width, 0), unit_row(width, width - 1), packed_row(field, values(5, width, field)),
                              packed_row(field, [-3] * width)):
                        self.check(record, z[:plant.size], z[plant.size:])
                        self.check(record, lists(z[:plant.size]), lists(z[plant.size:]))

    def test_the_example(self):
        plant, other = unlike(u=wholes(1), x=wholes(0), record=ONE_ROW)
        self.assertEqual((plant, other), (plant_of(FRACTIONS, [[2]], [[0]]), plant_of(FRACTIONS, [[2]], [[1]])))


class Refusals(unittest.TestCase):
    def test_rows_ahead_of_no_fit(self):
        good = Record(FRACTIONS, 2, 2, [(wholes(1, 0), wholes(0, 0), wholes(1, 1))])
        bad = good.with_row(wholes(2, 0), wholes(0, 0), wholes(1, 1))
        for call in (reply, unlike):
            for record in (good, bad):
                for row in NO_ROWS:
                    self.assertEqual(raised(call, record, row, row), (BadRow, ("x",)))
                    self.assertEqual(raised(call, record, row, wholes(1, 1)), (BadRow, ("x",)))
                    self.assertEqual(raised(call, record, wholes(1, 1), row), (BadRow, ("u",)))
            for x in (wholes(1, 0), wholes(0, 1), wholes(0, 0)):
                self.assertEqual(raised(call, bad, x, wholes(0, 0)), (NoFit, ()))

    def test_nothing_passed_in_is_changed(self):
        x, u = [(0, 1)], [(1, 1)]
        plant, other = unlike(ONE_ROW, x, u)
        self.assertEqual((x, u), ([(0, 1)], [(1, 1)]))
        x[0] = u[0] = (9, 1)
        self.assertEqual(own_reply(other, wholes(0), wholes(1)), wholes(1))
        self.assertEqual(ONE_ROW.rows, ((wholes(1), wholes(0), wholes(2)),))


if __name__ == "__main__":
    unittest.main()
