import unittest
from itertools import product

from measured import counted_records, record_of
from sums import FRACTIONS, SMALL_FIELDS, all_rows, all_sums, all_tuples, dots, echelon_of, lies_in, own_reply, own_run
from sums import packed_row, plant_of, product_in, raised, rank_in, sum_in, values, wholes
from test_escapes import check_led_plant, many_records
from untaughthelm.errors import NoFit
from untaughthelm.escapes import Escape
from untaughthelm.fields import Field
from untaughthelm.onelaw import OneLaw, Shadow, Silent, one_law
from untaughthelm.plants import Plant
from untaughthelm.records import Record
from untaughthelm.rows import unit_row, unit_table, zero_row
from untaughthelm.unlike import fitting_plant, unlike

ONE_ROW = Record(FRACTIONS, 1, 1, [(wholes(1), wholes(0), wholes(2))])
QUARREL = ONE_ROW.with_row(wholes(1), wholes(0), wholes(3))


def own_spaces(record):
    """The spaces N(0), N(1), .., each next one by eliminating the replies, then the space, from the rows."""
    field, size = record.field, record.size
    spaces = [()]
    while len(spaces[-1]) < size:
        # Rows of replies with their states behind them; multiples of the space count as 0.
        rows = [y + x for x, u, y in record.rows] + [n + zero_row(size) for n in spaces[-1]]
        space = tuple(row[size:] for row in echelon_of(field, rows) if row[:size] == zero_row(size))
        if space == spaces[-1]:
            break
        spaces.append(space)
    return tuple(spaces)


def is_led(plant, table):
    """Whether A + B K, multiplied by itself as often as there are states, is 0."""
    field, size = plant.field, plant.size
    fed = [tuple(field.plus(a, b) for a, b in zip(row, fed_back))
           for row, fed_back in zip(plant.a, product_in(field, plant.b, table, size))]
    power = fed
    for _ in range(size - 1):
        power = product_in(field, power, fed, size)
    return all(row == zero_row(size) for row in power)


class Checked(unittest.TestCase):
    def check(self, record):
        """Look at every equation of the result's own rule."""
        told = one_law(record)
        field, size = record.field, record.size
        spaces = own_spaces(record)
        states = [x for x, u, y in record.rows]
        if len(spaces[-1]) == size:
            self.check_one_law(record, told, spaces)
        elif rank_in(field, states) < size:
            self.assertIsInstance(told, Silent)
            self.assertTrue(all_tuples(told.row))
            self.assertEqual(len(told.row), size)
            self.assertNotEqual(told.row, zero_row(size))
            self.assertTrue(all(dots(field, told.row, x) == (0, 1) for x in states))
        else:
            self.assertIsInstance(told, Shadow)
            self.assertEqual(told.rows, echelon_of(field, told.rows))
            self.assertEqual(len(told.rows), size - len(spaces[-1]))
            self.assertTrue(all(dots(field, row, x) == (0, 1) for row in told.rows for x in spaces[-1]))
            self.assertEqual(rank_in(field, told.table), len(told.rows))
            check_led_plant(self, record, told.plant, told.rows, told.table)
        return told

    def check_one_law(self, record, told, spaces):
        field = record.field
        self.assertIsInstance(told, OneLaw)
        self.assertEqual(told.spaces, spaces)
        self.assertEqual((told.spaces[0], told.spaces[-1]), ((), unit_table(record.size)))
        self.assertTrue(all_tuples(told.table))
        self.assertTrue(all_tuples(told.spaces))
        self.assertEqual([len(row) for row in told.table], [record.size] * record.inputs)
        plant = fitting_plant(record)
        zs = [x + u for x, u, y in record.rows]
        for low, high in zip(told.spaces, told.spaces[1:]):
            for x in high:
                u = tuple(dots(field, row, x) for row in told.table)
                # The reply to (x, K x) is sure, so the spaces need to be asked for one plant alone.
                self.assertTrue(lies_in(field, zs, x + u))
                self.assertTrue(lies_in(field, low + (zero_row(record.size),), own_reply(plant, x, u)))
        self.assertTrue(is_led(plant, told.table))


class Each(Checked):
    def test_records_of_all_sizes(self):
        found = {OneLaw: 0, Silent: 0, Shadow: 0}
        for record in many_records():
            found[type(self.check(record))] += 1
        self.assertGreater(min(found.values()), 50)

    def test_small_records(self):
        for record, _ in counted_records():
            self.check(record)

    def test_the_spaces_against_all_sums(self):
        for record, _ in counted_records():
            prime, size = record.field.prime, record.size
            factors = list(product(range(prime), repeat=len(record.rows)))
            sums = [tuple(sum_in(record.field, wholes(*told), [row[k] for row in record.rows], size) for k in (0, 2))
                    for told in factors]
            space = {zero_row(size)}
            for due in own_spaces(record)[1:]:
                space = {x for x, y in sums if y in space}
                self.assertEqual(all_sums(prime, size, due), space)
            if len(own_spaces(record)[-1]) < size:
                self.assertEqual({x for x, y in sums if y in space}, space)

    def test_against_all_laws_on_all_plants_that_fit(self):
        found = {OneLaw: 0, Silent: 0, Shadow: 0}
        for record, fits in counted_records():
            told = one_law(record)
            found[type(told)] += 1
            if isinstance(told, OneLaw):
                self.assertTrue(all(is_led(plant, told.table) for plant in fits))
                for low, high in zip(told.spaces, told.spaces[1:]):
                    reached = all_sums(record.field.prime, record.size, low)
                    for x in high:
                        u = tuple(dots(record.field, row, x) for row in told.table)
                        self.assertTrue(all(own_reply(plant, x, u) in reached for plant in fits))
            else:
                lines = all_rows(record.field.prime, record.size)
                for table in product(lines, repeat=record.inputs):
                    self.assertFalse(all(is_led(plant, table) for plant in fits))
        self.assertGreater(min(found.values()), 3)

    def test_what_a_shadow_shows(self):
        for record, fits in counted_records():
            told = one_law(record)
            if isinstance(told, Shadow):
                self.assertIn(told.plant, fits)
                rest = (0, 1)
                for x in all_rows(record.field.prime, record.size):
                    if any(dots(record.field, row, x) != rest for row in told.rows):
                        for u in all_rows(record.field.prime, record.inputs):
                            y = own_reply(told.plant, x, u)
                            self.assertTrue(any(dots(record.field, row, y) != rest for row in told.rows))

    def test_what_a_silent_row_shows(self):
        for record, fits in counted_records():
            told = one_law(record)
            if isinstance(told, Silent):
                plant = fits[0]
                other = Plant(record.field, [tuple(record.field.plus(a, b) for a, b in zip(plant.a[0], told.row))]
                              + list(plant.a[1:]), plant.b)
                self.assertIn(other, fits)

    def test_plants_that_fit_over_fractions(self):
        for record in many_records():
            if record.field.prime is None and record.unknowns:
                told = one_law(record)
                if isinstance(told, OneLaw):
                    for place in range(record.size + record.inputs):
                        z = unit_row(record.size + record.inputs, place)
                        for plant in unlike(record, z[:record.size], z[record.size:]) or ():
                            self.assertTrue(is_led(plant, told.table))


class Cases(Checked):
    def test_no_rows(self):
        for field in SMALL_FIELDS:
            for size in (1, 2, 3, 4):
                for inputs in (1, 2, 3):
                    self.assertIsInstance(self.check(Record(field, size, inputs)), Silent)

    def test_rows_of_zeros(self):
        zeros = (zero_row(2), zero_row(1), zero_row(2))
        self.assertIsInstance(self.check(Record(FRACTIONS, 2, 1, [zeros, zeros])), Silent)
        record = Record(FRACTIONS, 1, 1, [(wholes(0), wholes(0), wholes(0)), (wholes(2), wholes(3), wholes(0))])
        self.assertEqual(self.check(record), OneLaw((((3, 2),),), ((), (wholes(1),))))

    def test_states_of_zeros(self):
        record = Record(FRACTIONS, 2, 1, [(zero_row(2), wholes(1), wholes(1, 2)), (zero_row(2), wholes(2), wholes(2, 4))])
        self.assertIsInstance(self.check(record), Silent)

    def test_the_examples(self):
        record = ONE_ROW.with_row(wholes(1), wholes(1), wholes(3))
        self.assertEqual(self.check(record), OneLaw((wholes(-2),), ((), (wholes(1),))))
        record = Record(FRACTIONS, 1, 1, [(wholes(2), wholes(3), wholes(0))])
        self.assertEqual(one_law(record=record), OneLaw((((3, 2),),), ((), (wholes(1),))))
        self.assertEqual(self.check(ONE_ROW), Shadow(plant_of(FRACTIONS, [[2]], [[0]]), (wholes(1),), (wholes(2),)))

    def test_a_law_though_nothing_is_known_for_sure(self):
        # Two states, led to 0 one behind the other by inputs that were measured; no input alone was.
        record = Record(FRACTIONS, 2, 1, [(wholes(1, 0), wholes(4), wholes(0, 0)), (wholes(1, 1), wholes(5), wholes(3, 0))])
        told = self.check(record)
        self.assertEqual(told, OneLaw((wholes(4, 1),), ((), (wholes(1, 0),), unit_table(2))))
        self.assertEqual(record.unknowns, 2)

    def test_known_plants(self):
        for field in SMALL_FIELDS:
            plant = plant_of(field, [[1, 1, 0, 2], [0, 1, 1, 0], [0, 0, 1, 1], [1, 0, 0, 1]], [[0], [0], [0], [1]])
            record = record_of(plant, 12, 3)
            if record.unknowns == 0:
                told = self.check(record)
                self.assertIsInstance(told, OneLaw)
                self.assertEqual(len(told.spaces), 5)
                start = packed_row(field, values(3, 4, field))
                states = [start]
                for _ in range(4):
                    states.append(own_reply(plant, states[-1], [dots(field, row, states[-1]) for row in told.table]))
                self.assertEqual(states[-1], zero_row(4))
                self.assertEqual(own_run(plant, start, [tuple(dots(field, row, x) for row in told.table)
                                                        for x in states[:-1]]), states)

    def test_shadow_of_a_part(self):
        plant = plant_of(FRACTIONS, [[0, 1, 0], [0, 0, 0], [0, 0, 5]], [[0], [1], [0]])
        told = self.check(record_of(plant, 12, 2))
        self.assertEqual(told, Shadow(plant, (wholes(0, 0, 1),), (wholes(5),)))

    def test_an_uncontrolled_part_that_comes_to_rest_by_itself(self):
        plant = plant_of(FRACTIONS, [[3, 0, 0], [0, 0, 1], [0, 0, 0]], [[2], [0], [0]])
        told = self.check(record_of(plant, 12, 2))
        self.assertIsInstance(told, OneLaw)

    def test_quarrels(self):
        # Without the last row of each there would be a Shadow, a OneLaw and a Silent.
        for record in (QUARREL, Record(FRACTIONS, 1, 1, [(wholes(1), wholes(0), wholes(2)), (wholes(0), wholes(1), wholes(1)),
                                                         (wholes(1), wholes(1), wholes(9))]),
                       Record(FRACTIONS, 1, 1, [(wholes(0), wholes(1), wholes(1)), (wholes(0), wholes(2), wholes(1))]),
                       Record(FRACTIONS, 1, 1, [(wholes(0), wholes(0), wholes(1))])):
            self.assertEqual(raised(one_law, record), (NoFit, ()))
            self.assertIs(raised(one_law, record.cut(0, len(record) - 1)), None)


class Results(unittest.TestCase):
    def test_they_keep_the_very_things(self):
        one, other, third = [1], [[2]], object()
        told = OneLaw(one, other)
        self.assertTrue(told.table is one and told.spaces is other)
        self.assertTrue(Silent(one).row is one)
        told = Shadow(third, one, other)
        self.assertTrue(told.plant is third and told.rows is one and told.table is other)
        told = Shadow(table=1, rows=2, plant=3)
        self.assertEqual((told.table, told.rows, told.plant), (1, 2, 3))
        self.assertEqual((OneLaw(spaces=1, table=2).table, Silent(row=4).row), (2, 4))

    def unlike(self, told, others):
        for other in others:
            self.assertFalse(told == other)
            self.assertFalse(other == told)
            self.assertTrue(told != other)
            self.assertTrue(other != told)

    def test_equal_and_unlike(self):
        self.assertTrue(OneLaw(1, 2) == OneLaw(1, 2))
        self.assertFalse(OneLaw(1, 2) != OneLaw(1, 2))
        self.unlike(OneLaw(1, 2), (OneLaw(2, 2), OneLaw(1, 1), (1, 2), None, Silent(1), object()))
        self.assertTrue(Silent(wholes(1)) == Silent(wholes(1)))
        self.assertFalse(Silent(wholes(1)) != Silent(wholes(1)))
        self.unlike(Silent(wholes(1)), (Silent(wholes(2)), wholes(1), None, OneLaw(wholes(1), ()), object()))
        plant = plant_of(FRACTIONS, [[2]], [[0]])
        told = Shadow(plant, 1, 2)
        self.assertTrue(told == Shadow(plant_of(Field(), [[2]], [[0]]), 1, 2))
        self.assertFalse(told != Shadow(plant, 1, 2))
        self.unlike(told, (Shadow(plant_of(FRACTIONS, [[2]], [[1]]), 1, 2), Shadow(plant, 2, 2), Shadow(plant, 1, 1),
                           Escape(plant, 1, 2), (plant, 1, 2), None, plant, object()))


if __name__ == "__main__":
    unittest.main()
