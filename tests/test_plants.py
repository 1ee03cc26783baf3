import unittest
from inspect import isgenerator

from sums import FIELDS, FRACTIONS, NO_ROWS, lists, packed_row, packed_table, product_of, raised, sum_of, times_column
from sums import value_table, values, wholes
from untaughthelm.errors import BadPlant, BadRow, BadTable
from untaughthelm.fields import Field
from untaughthelm.plants import Plant
from untaughthelm.rows import table_table, unit_table
from untaughthelm.spans import inverse

SHAPES = tuple((size, inputs) for size in (1, 2, 3, 4) for inputs in (1, 2, 3))


def some_plant(field, size, inputs, seed=1):
    """A plant of the package, and its tables as fractions."""
    a, b = value_table(seed, size, size, field), value_table(seed + 20, size, inputs, field)
    return Plant(field, packed_table(field, a), packed_table(field, b)), a, b


class Making(unittest.TestCase):
    def test_attributes(self):
        for field in FIELDS:
            for size, inputs in SHAPES:
                a = packed_table(field, value_table(1, size, size, field))
                b = packed_table(field, value_table(2, size, inputs, field))
                for plant in (Plant(field, a, b), Plant(field, lists(a), lists(b)), Plant(b=b, a=list(a), field=field)):
                    self.assertEqual((plant.field, plant.a, plant.b), (field, a, b))
                    self.assertEqual((plant.size, plant.inputs), (size, inputs))

    def test_lists_that_change_later(self):
        a, b = [[(1, 1), (2, 1)], [(3, 1), (4, 1)]], [[(5, 1)], [(6, 1)]]
        plant = Plant(FRACTIONS, a, b)
        a[0][0] = b[0][0] = (9, 1)
        a.pop()
        b.pop()
        self.assertEqual(plant, Plant(FRACTIONS, (wholes(1, 2), wholes(3, 4)), (wholes(5), wholes(6))))
        self.assertEqual((a, b), ([[(9, 1), (2, 1)]], [[(9, 1)]]))

    def test_equal_and_unlike(self):
        a, b = (wholes(1, 0), wholes(0, 1)), (wholes(1), wholes(0))
        plant = Plant(FRACTIONS, a, b)
        self.assertTrue(plant == Plant(Field(), lists(a), lists(b)))
        self.assertFalse(plant != Plant(Field(), lists(a), lists(b)))
        for other in (Plant(Field(7), a, b), Plant(FRACTIONS, a[::-1], b), Plant(FRACTIONS, a, b[::-1]),
                      Plant(FRACTIONS, a, (wholes(1, 0), wholes(0, 0))), None, FRACTIONS, (a, b), object()):
            self.assertFalse(plant == other)
            self.assertFalse(other == plant)
            self.assertTrue(plant != other)
            self.assertTrue(other != plant)

    def refused(self, what, at, a, b, field=FRACTIONS):
        self.assertEqual(raised(Plant, field, a, b), (BadPlant, (at, what)), (a, b))

    def test_size(self):
        for a in (None, 3, "ab", (), [], unit_table(5), {0: wholes(1)}, {wholes(1)}, iter([wholes(1)])):
            self.refused("size", 0, a, [wholes(1)])
            self.refused("size", 0, a, None)

    def test_rows_of_a(self):
        for row in NO_ROWS:
            self.refused("a", 0, [row, wholes(1, 0)], [wholes(1), wholes(1)])
            self.refused("a", 1, (wholes(1, 0), row), [wholes(1), wholes(1)])
            self.refused("a", 0, [row, row], None)
            self.refused("a", 1, (wholes(1, 0), row), [wholes(1)])
            self.refused("a", 1, (wholes(1, 0), row), [None, None])
        for at in range(4):
            rows = list(unit_table(4))
            rows[at] = wholes(1, 1, 1)
            self.refused("a", at, rows, unit_table(4))
        self.refused("a", 0, [(1, 1)], [wholes(1)])

    def test_inputs(self):
        a = (wholes(1, 0), wholes(0, 1))
        for b in (None, 3, "ab", (), [wholes(1)], [wholes(1)] * 3, {0: wholes(1), 1: wholes(1)}, [None, wholes(1)],
                  [(), ()], [(), wholes(1)], [wholes(1, 1, 1, 1)] * 2, ["a", "b"], [{(1, 1)}, {(1, 1)}],
                  [3, wholes(1)]):
            self.refused("inputs", 0, a, b)

    def test_rows_of_b(self):
        a = (wholes(1, 0), wholes(0, 1))
        for row in NO_ROWS:
            self.refused("b", 1, a, [wholes(1, 0), row])
        for row in ([(1, 1), None], [None, None], [(2, 4), (1, 1)], (1, 1), [[1, 1]]):
            self.refused("b", 0, a, [row, wholes(1, 1)])
            self.refused("b", 0, a, [row, None])
        self.refused("b", 1, a, [wholes(1), wholes(1, 1)])
        self.refused("b", 1, a, [wholes(1), None])
        for at in range(1, 4):
            rows = [wholes(1, 1, 1)] * 4
            rows[at] = wholes(1, 1)
            self.refused("b", at, unit_table(4), rows)

    def test_numbers_of_another_field(self):
        self.refused("a", 0, [[(7, 1)]], [wholes(1)], Field(7))
        self.refused("a", 0, [[(1, 2)]], [wholes(1)], Field(7))
        self.refused("b", 0, [wholes(1)], [[(7, 1)]], Field(7))
        self.refused("b", 0, [wholes(1)], [[(-1, 1)]], Field(7))
        self.assertEqual(Plant(FRACTIONS, [[(7, 1)]], [[(1, 2)]]).a, (wholes(7),))


class Running(unittest.TestCase):
    def test_step(self):
        for field in FIELDS:
            for size, inputs in SHAPES:
                plant, a, b = some_plant(field, size, inputs)
                x, u = values(3, size, field), values(4, inputs, field)
                due = packed_row(field, [p + q for p, q in zip(times_column(a, x), times_column(b, u))])
                self.assertEqual(plant.step(packed_row(field, x), packed_row(field, u)), due)
                self.assertEqual(plant.step(list(packed_row(field, x)), list(packed_row(field, u))), due)
                self.assertEqual(plant.step(u=packed_row(field, u), x=packed_row(field, x)), due)

    def test_by_hand(self):
        plant = Plant(FRACTIONS, [[(1, 1), (1, 2)], [(0, 1), (-3, 1)]], [[(0, 1)], [(1, 1)]])
        self.assertEqual(plant.step(wholes(1, 2), wholes(5)), wholes(2, -1))
        self.assertEqual(plant.run(wholes(1, 2), [wholes(5), wholes(0)]), (wholes(1, 2), wholes(2, -1), ((3, 2), (3, 1))))
        rest = Plant(Field(7), [[(6, 1)]], [[(1, 1), (0, 1)]])
        self.assertEqual(rest.run(wholes(3), [wholes(5, 6), wholes(6, 0)]), (wholes(3), wholes(2), wholes(4)))

    def test_step_refuses(self):
        plant = Plant(FRACTIONS, unit_table(2), unit_table(2))
        for row in NO_ROWS:
            self.assertEqual(raised(plant.step, row, wholes(1, 1)), (BadRow, ("x",)))
            self.assertEqual(raised(plant.step, row, row), (BadRow, ("x",)))
            self.assertEqual(raised(plant.step, wholes(1, 1), row), (BadRow, ("u",)))
        self.assertEqual(raised(Plant(Field(7), [wholes(1)], [wholes(1)]).step, wholes(7), wholes(1)), (BadRow, ("x",)))
        self.assertEqual(raised(Plant(Field(7), [wholes(1)], [wholes(1)]).step, wholes(1), wholes(7)), (BadRow, ("u",)))

    def test_run_and_steps(self):
        for field in FIELDS:
            for size, inputs in SHAPES:
                plant, a, b = some_plant(field, size, inputs, 6)
                x = values(7, size, field)
                puts = value_table(8, 5, inputs, field)
                due = [packed_row(field, x)]
                for u in puts:
                    x = [p + q for p, q in zip(times_column(a, x), times_column(b, u))]
                    due.append(packed_row(field, x))
                told = packed_table(field, puts)
                for start, given in ((due[0], told), (list(due[0]), lists(told)), (due[0], list(told))):
                    self.assertEqual(plant.run(start, given), tuple(due))
                    self.assertEqual(list(plant.steps(start, given)), due)
                self.assertEqual(plant.run(puts=told, start=due[0]), tuple(due))
                self.assertEqual(tuple(plant.steps(puts=told, start=due[0])), tuple(due))

    def test_no_inputs(self):
        for field in FIELDS:
            plant, _, _ = some_plant(field, 2, 1)
            for puts in ((), []):
                self.assertEqual(plant.run([(1, 1), (0, 1)], puts), (wholes(1, 0),))
                self.assertEqual(list(plant.steps([(1, 1), (0, 1)], puts)), [wholes(1, 0)])

    def test_sixty_inputs(self):
        plant = Plant(FRACTIONS, [wholes(2)], [wholes(1)])
        puts = [wholes(0)] * 59 + [wholes(1)]
        due = tuple(wholes(2 ** t) for t in range(60)) + (wholes(2 ** 60 + 1),)
        self.assertEqual(plant.run(wholes(1), puts), due)
        self.assertEqual(tuple(plant.steps(wholes(1), puts)), due)

    def test_steps_is_a_generator(self):
        plant = Plant(FRACTIONS, [wholes(2)], [wholes(1)])
        told = plant.steps(wholes(1), [wholes(1), wholes(0)])
        self.assertTrue(isgenerator(told))
        self.assertEqual(next(told), wholes(1))
        self.assertEqual(next(told), wholes(3))
        self.assertEqual(next(told), wholes(6))
        self.assertRaises(StopIteration, next, told)

    def test_two_runs_side_by_side(self):
        plant = Plant(FRACTIONS, [wholes(2)], [wholes(1)])
        one, other = plant.steps(wholes(1), [wholes(0)]), plant.steps(wholes(5), [wholes(1)])
        self.assertEqual([next(one), next(other), next(one), next(other)], [wholes(1), wholes(5), wholes(2), wholes(11)])

    def test_run_and_steps_refuse(self):
        plant = Plant(FRACTIONS, unit_table(2), unit_table(2))

        def first(start, puts):
            next(plant.steps(start, puts))

        for call in (plant.run, first):
            for row in NO_ROWS:
                self.assertEqual(raised(call, row, []), (BadRow, ("start",)))
                self.assertEqual(raised(call, row, None), (BadRow, ("start",)))
                self.assertEqual(raised(call, row, [row]), (BadRow, ("start",)))
                self.assertEqual(raised(call, wholes(1, 1), [row]), (BadRow, ("puts",)))
                self.assertEqual(raised(call, wholes(1, 1), (wholes(1, 1), wholes(0, 1), row)), (BadRow, ("puts",)))
            for puts in (None, 3, "ab", {}, {wholes(1, 1)}, iter([wholes(1, 1)])):
                self.assertEqual(raised(call, wholes(1, 1), puts), (BadRow, ("puts",)))


class Laws(unittest.TestCase):
    def test_with_law(self):
        for field in FIELDS:
            for size, inputs in SHAPES:
                plant, a, b = some_plant(field, size, inputs, 3)
                k = value_table(9, inputs, size, field)
                told = packed_table(field, k)
                due = Plant(field, packed_table(field, sum_of(a, product_of(b, k))), plant.b)
                self.assertEqual(plant.with_law(told), due)
                self.assertEqual(plant.with_law(lists(told)), due)
                self.assertEqual(plant.with_law(table=told), due)
                self.assertEqual(plant, some_plant(field, size, inputs, 3)[0])

    def test_what_a_law_does(self):
        plant, _, _ = some_plant(FRACTIONS, 3, 2)
        law, x, v = value_table(5, 2, 3, FRACTIONS), [1, -2, 3], [4, 5]
        u = [fed_back + new for fed_back, new in zip(times_column(law, x), v)]
        fed = plant.with_law(packed_table(FRACTIONS, law))
        self.assertEqual(fed.step(wholes(*x), wholes(*v)), plant.step(wholes(*x), packed_row(FRACTIONS, u)))

    def test_wrong_laws(self):
        plant = Plant(FRACTIONS, unit_table(2), [wholes(1, 0, 0), wholes(0, 1, 0)])
        right = [wholes(1, 2)] * 3
        self.assertEqual(plant.with_law(right).a, (wholes(2, 2), wholes(1, 3)))
        for table in (None, 3, "abc", (), right[:2], right * 2, {0: wholes(1, 2), 1: wholes(1, 2), 2: wholes(1, 2)},
                      [wholes(1, 2, 3)] * 2, [wholes(1, 2, 3)] * 3):
            self.assertEqual(raised(plant.with_law, table), (BadTable, ("law",)))
        for row in NO_ROWS:
            for at in range(3):
                table = list(right)
                table[at] = row
                self.assertEqual(raised(plant.with_law, table), (BadTable, ("law",)))


class Coordinates(unittest.TestCase):
    def tables(self, field, width, seed):
        """A table that has an inverse."""
        while True:
            table = value_table(seed, width, width, field)
            if inverse(field, packed_table(field, table)) is not None:
                return table
            seed += 1000

    def test_mixed(self):
        for field in FIELDS:
            for size, inputs in SHAPES:
                plant, a, b = some_plant(field, size, inputs, 12)
                t, s = self.tables(field, size, 1), self.tables(field, inputs, 2)
                told, input_told = packed_table(field, t), packed_table(field, s)
                new = plant.mixed(told, input_told)
                self.assertEqual((new.field, new.size, new.inputs), (field, size, inputs))
                self.assertEqual(table_table(field, told, new.a), packed_table(field, product_of(a, t)))
                self.assertEqual(table_table(field, told, new.b), packed_table(field, product_of(b, s)))
                self.assertEqual(plant.mixed(lists(told), lists(input_told)), new)
                self.assertEqual(plant.mixed(input_table=input_told, table=told), new)
                self.assertEqual(plant, some_plant(field, size, inputs, 12)[0])

    def test_mixed_without_an_input_table(self):
        for field in FIELDS:
            for size, inputs in SHAPES:
                plant, a, b = some_plant(field, size, inputs, 14)
                t = self.tables(field, size, 5)
                told = packed_table(field, t)
                new = plant.mixed(told)
                self.assertEqual(table_table(field, told, new.a), packed_table(field, product_of(a, t)))
                self.assertEqual(table_table(field, told, new.b), plant.b)
                self.assertEqual(plant.mixed(told, None), new)
                self.assertEqual(plant.mixed(told, unit_table(inputs)), new)

    def test_by_hand(self):
        plant = Plant(FRACTIONS, (wholes(1, 1), wholes(0, 1)), (wholes(0), wholes(1)))
        new = plant.mixed([wholes(1, 1), wholes(0, 2)], [wholes(3)])
        self.assertEqual(new.a, (wholes(1, 2), wholes(0, 1)))
        self.assertEqual(new.b, (((-3, 2),), ((3, 2),)))

    def test_wrong_tables(self):
        plant = Plant(FRACTIONS, unit_table(2), [wholes(1, 0, 0), wholes(0, 1, 0)])
        flat, flat_input = [wholes(1, 2), wholes(2, 4)], [wholes(1, 0, 0)] * 3
        for table in (None, 3, "ab", (), unit_table(1), unit_table(3), [wholes(1, 0)] * 3):
            for input_table in (None, unit_table(3), unit_table(2), flat_input):
                self.assertEqual(raised(plant.mixed, table, input_table), (BadTable, ("table",)))
        for input_table in (3, "abc", (), unit_table(2), unit_table(4), [wholes(1, 0)] * 3, [wholes(1, 0, 0)] * 2):
            for table in (unit_table(2), flat):
                self.assertEqual(raised(plant.mixed, table, input_table), (BadTable, ("input_table",)))

    def test_wrong_rows_of_tables(self):
        plant = Plant(FRACTIONS, unit_table(2), unit_table(2))
        flat = [wholes(1, 2), wholes(2, 4)]
        for row in NO_ROWS:
            for table in ([wholes(1, 0), row], [row, wholes(1, 0)]):
                self.assertEqual(raised(plant.mixed, table), (BadTable, ("table",)))
                self.assertEqual(raised(plant.mixed, table, table), (BadTable, ("table",)))
                self.assertEqual(raised(plant.mixed, unit_table(2), table), (BadTable, ("input_table",)))
                self.assertEqual(raised(plant.mixed, flat, table), (BadTable, ("input_table",)))

    def test_tables_without_an_inverse(self):
        plant = Plant(FRACTIONS, unit_table(2), [wholes(1, 0, 0), wholes(0, 1, 0)])
        flat, flat_input = [wholes(1, 2), wholes(2, 4)], [wholes(1, 0, 0)] * 3
        for input_table in (None, unit_table(3), flat_input):
            self.assertEqual(raised(plant.mixed, flat, input_table), (BadPlant, (0, "mixed")))
        self.assertEqual(raised(plant.mixed, unit_table(2), flat_input), (BadPlant, (1, "mixed")))
        rests = Plant(Field(7), unit_table(2), unit_table(2))
        self.assertEqual(raised(rests.mixed, [wholes(1, 2), wholes(3, 6)]), (BadPlant, (0, "mixed")))
        self.assertEqual(raised(rests.mixed, unit_table(2), [wholes(1, 2), wholes(3, 6)]), (BadPlant, (1, "mixed")))


if __name__ == "__main__":
    unittest.main()
