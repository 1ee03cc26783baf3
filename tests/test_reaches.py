import unittest
from itertools import product

from sums import FRACTIONS, NO_ROWS, SMALL_FIELDS, all_plants, all_rows, all_sums, all_tuples, echelon_of, is_controllable
from sums import lies_in, own_reply, own_run, packed_row, plant_of, product_in, raised, rank_in, values, varied_plants, wholes
from untaughthelm.errors import BadRow, BadTicks
from untaughthelm.fields import Field
from untaughthelm.plants import Plant
from untaughthelm.reaches import drift, hull, input_rank, longest, nulls, puts_to, reach, responses, uncontrolled
from untaughthelm.rows import unit_row, unit_table, zero_row

NO_TICKS = (-1, 61, True, False, "3", None, 3.0, (3,), [3])


def counted_plants():
    """Small plants by rests, with a number of ticks in which all their inputs can be counted out."""
    for plant in all_plants(2, 2, 1)[::3]:
        yield plant, 5
    for plant in all_plants(2, 2, 2)[::37]:
        yield plant, 3
    for plant in all_plants(3, 2, 1)[::41]:
        yield plant, 4
    for prime, ticks in ((2, 4), (3, 3)):
        for plant in varied_plants(Field(prime)):
            if plant.size <= 3 and plant.inputs == 1:
                yield plant, ticks


def all_puts(plant, ticks):
    return product(all_rows(plant.field.prime, plant.inputs), repeat=ticks)


def own_columns(plant, ticks):
    """The columns of the responses, by runs of one unit input each."""
    still = [zero_row(plant.inputs)] * ticks
    columns = []
    for tick in range(ticks):
        for place in range(plant.inputs):
            puts = still[:tick] + [unit_row(plant.inputs, place)] + still[tick + 1:]
            columns.append(own_run(plant, zero_row(plant.size), puts)[-1])
    return columns


def turned_back(columns, size):
    return tuple(tuple(column[k] for column in columns) for k in range(size))


class Moving(unittest.TestCase):
    def test_drift(self):
        for field in SMALL_FIELDS:
            for plant in varied_plants(field):
                x = packed_row(field, values(9, plant.size, field))
                states = own_run(plant, x, [zero_row(plant.inputs)] * 60)
                for ticks in (0, 1, plant.size, 9, 60):
                    told = drift(plant, x, ticks)
                    self.assertEqual(told, states[ticks])
                    self.assertTrue(all_tuples(told))
                self.assertEqual(drift(plant, list(x), 2), states[2])
                self.assertEqual(drift(ticks=0, x=list(x), plant=plant), x)

    def test_responses(self):
        for field in SMALL_FIELDS:
            for plant in varied_plants(field):
                for ticks in (0, 1, 2, plant.size, 7):
                    told = responses(plant, ticks)
                    self.assertEqual(told, turned_back(own_columns(plant, ticks), plant.size))
                    self.assertTrue(all_tuples(told))
        self.assertEqual(responses(plant_of(FRACTIONS, [[2]], [[1]]), 3), (wholes(4, 2, 1),))
        self.assertEqual(responses(plant=plant_of(FRACTIONS, [[2, 0], [0, 1]], [[1], [0]]), ticks=0), ((), ()))

    def test_responses_of_sixty_ticks(self):
        for field in SMALL_FIELDS:
            plant = plant_of(field, [[1, 2, 0, 1], [0, 3, 1, 1], [1, 0, 1, 0], [2, 1, 1, 0]], [[1, 0, 2]] * 4)
            told = responses(plant, 60)
            self.assertEqual([len(row) for row in told], [180] * 4)
            puts = [zero_row(3)] * 60
            puts[4] = unit_row(3, 2)
            self.assertEqual(tuple(row[14] for row in told), own_run(plant, zero_row(4), puts)[-1])
            puts = [packed_row(field, values(tick, 3, field)) for tick in range(60)]
            flat = [number for put in puts for number in put]
            x = packed_row(field, values(77, 4, field))
            led = product_in(field, [flat], turned_back(told, 180), 4)[0]
            self.assertEqual(own_run(plant, x, puts)[-1],
                             tuple(field.plus(a, b) for a, b in zip(drift(plant, x, 60), led)))


class Spaces(unittest.TestCase):
    def test_reach_against_its_columns(self):
        for field in SMALL_FIELDS:
            for plant in varied_plants(field):
                last = ()
                for ticks in (0, 1, 2, 3, 4, 5, 60):
                    told = reach(plant, ticks)
                    self.assertEqual(told, echelon_of(field, own_columns(plant, min(ticks, 6))))
                    self.assertTrue(all_tuples(told))
                    self.assertTrue(all(lies_in(field, told, row) for row in last))
                    last = told
                self.assertEqual(reach(plant, 0), ())
                self.assertEqual(reach(plant, 60), reach(plant, plant.size))

    def test_reach_against_all_inputs(self):
        for plant, most in counted_plants():
            prime = plant.field.prime
            for ticks in range(most + 1):
                found = {own_run(plant, zero_row(plant.size), puts)[-1] for puts in all_puts(plant, ticks)}
                self.assertEqual(all_sums(prime, plant.size, reach(plant, ticks)), found)

    def test_nulls_against_all_inputs(self):
        for plant, most in counted_plants():
            prime = plant.field.prime
            rest = zero_row(plant.size)
            for ticks in range(most + 1):
                told = nulls(plant, ticks)
                found = {x for x in all_rows(prime, plant.size)
                         if any(own_run(plant, x, puts)[-1] == rest for puts in all_puts(plant, ticks))}
                self.assertEqual(all_sums(prime, plant.size, told), found)
                self.assertEqual(told, echelon_of(plant.field, told))

    def test_nulls_by_ranks(self):
        for field in SMALL_FIELDS:
            for plant in varied_plants(field):
                self.assertEqual(nulls(plant, 0), ())
                self.assertEqual(nulls(plant, 60), nulls(plant, plant.size))
                for ticks in (1, 2, 3, 4, 5):
                    told = nulls(plant, ticks)
                    self.assertTrue(all_tuples(told))
                    self.assertEqual(told, echelon_of(field, told))
                    columns = own_columns(plant, ticks)
                    still = [zero_row(plant.inputs)] * ticks
                    powers = [own_run(plant, x, still)[-1] for x in unit_table(plant.size)]
                    free = plant.size - rank_in(field, powers + columns) + rank_in(field, columns)
                    self.assertEqual(len(told), free)
                    self.assertTrue(all(lies_in(field, columns, own_run(plant, x, still)[-1]) for x in told))

    def test_nulls_by_hand(self):
        shift = plant_of(FRACTIONS, [[0, 1, 0], [0, 0, 1], [0, 0, 0]], [[0], [0], [0]])
        self.assertEqual([nulls(shift, ticks) for ticks in (0, 1, 2, 3, 4)],
                         [(), (wholes(1, 0, 0),), (wholes(1, 0, 0), wholes(0, 1, 0)), unit_table(3), unit_table(3)])
        pushed = plant_of(FRACTIONS, [[2, 0], [1, 1]], [[1], [1]])
        self.assertEqual(nulls(pushed, 1), (wholes(1, 1),))
        self.assertEqual(nulls(pushed, 2), (wholes(1, 1),))

    def test_hull_against_the_states_of_all_runs(self):
        for plant, _ in counted_plants():
            field = plant.field
            for start in all_rows(field.prime, plant.size)[::2]:
                found, new = {start}, [start]
                while new:
                    new = {own_reply(plant, x, u) for x in new for u in all_rows(field.prime, plant.inputs)} - found
                    found |= new
                told = hull(plant, start)
                self.assertEqual(told, echelon_of(field, sorted(found)))

    def test_hull_by_its_rule(self):
        for field in SMALL_FIELDS:
            for plant in varied_plants(field):
                for start in (packed_row(field, values(4, plant.size, field)), unit_row(plant.size, 0),
                              zero_row(plant.size)):
                    blocks = []
                    columns = [start] + [tuple(row[k] for row in plant.b) for k in range(plant.inputs)]
                    for _ in range(plant.size):
                        blocks += columns
                        columns = [own_reply(plant, x, zero_row(plant.inputs)) for x in columns]
                    told = hull(plant, start)
                    self.assertEqual(told, echelon_of(field, blocks))
                    self.assertEqual(hull(start=list(start), plant=plant), told)
                    self.assertTrue(all_tuples(told))
                self.assertEqual(hull(plant, zero_row(plant.size)), reach(plant, plant.size))


class Control(unittest.TestCase):
    def test_input_rank(self):
        for field in SMALL_FIELDS:
            for plant in varied_plants(field):
                self.assertEqual(input_rank(plant), rank_in(field, plant.b))
        self.assertEqual(input_rank(plant_of(FRACTIONS, [[1, 0], [0, 1]], [[1, 2, 3], [2, 4, 6]])), 1)
        self.assertEqual(input_rank(plant_of(Field(7), [[1, 0], [0, 1]], [[1, 2], [4, 1]])), 1)
        self.assertEqual(input_rank(plant_of(FRACTIONS, [[1, 0], [0, 1]], [[1, 2], [4, 1]])), 2)
        self.assertEqual(input_rank(plant_of(FRACTIONS, [[1]], [[0, 0]])), 0)

    def test_longest(self):
        for field in SMALL_FIELDS:
            for plant in varied_plants(field):
                told = longest(plant)
                found = [ticks for ticks in range(6) if rank_in(field, own_columns(plant, ticks)) == plant.size]
                self.assertEqual(told, found[0] if found else None)
                self.assertEqual(told is not None, is_controllable(plant))
                self.assertEqual(told is None, uncontrolled(plant) is not None)
                if told is not None:
                    self.assertIs(type(told), int)
                    self.assertLessEqual(told, plant.size - input_rank(plant) + 1)
                    self.assertEqual(reach(plant, told), unit_table(plant.size))
                    self.assertNotEqual(reach(plant, told - 1), unit_table(plant.size))
        self.assertEqual(longest(plant_of(FRACTIONS, [[0, 0], [1, 0]], [[1], [0]])), 2)
        self.assertEqual(longest(plant_of(FRACTIONS, [[5]], [[1]])), 1)
        self.assertIs(longest(plant_of(FRACTIONS, [[5]], [[0]])), None)

    def test_longest_against_all_inputs(self):
        for plant, most in counted_plants():
            states = set(all_rows(plant.field.prime, plant.size))
            found = None
            for ticks in range(min(most, plant.size), -1, -1):
                if {own_run(plant, zero_row(plant.size), puts)[-1] for puts in all_puts(plant, ticks)} == states:
                    found = ticks
            if most >= plant.size:
                self.assertEqual(longest(plant), found)

    def test_uncontrolled(self):
        for field in SMALL_FIELDS:
            for plant in varied_plants(field):
                told = uncontrolled(plant)
                if told is not None:
                    self.assertTrue(all_tuples(told))
                    self.assertEqual(told, echelon_of(field, told))
                    self.assertEqual(len(told), plant.size - rank_in(field, own_columns(plant, plant.size)))
                    self.assertEqual(product_in(field, told, plant.b, plant.inputs),
                                     (zero_row(plant.inputs),) * len(told))
                    for row in product_in(field, told, plant.a, plant.size):
                        self.assertTrue(lies_in(field, told, row))

    def test_uncontrolled_against_all_rows(self):
        for plant, _ in counted_plants():
            field, size = plant.field, plant.size
            columns = own_columns(plant, size)
            found = {row for row in all_rows(field.prime, size)
                     if all(sum(a[0] * b[0] for a, b in zip(row, column)) % field.prime == 0 for column in columns)}
            told = uncontrolled(plant)
            self.assertEqual(all_sums(field.prime, size, told or ()), found)
            self.assertEqual(told is None, found == {zero_row(size)})

    def test_by_hand(self):
        plant = plant_of(FRACTIONS, [[1, 1, 0], [0, 1, 0], [0, 0, 3]], [[1], [1], [0]])
        self.assertEqual(uncontrolled(plant), (wholes(0, 0, 1),))
        plant = plant_of(FRACTIONS, [[2, 0], [0, 2]], [[2], [1]])
        self.assertEqual(uncontrolled(plant), (((1, 1), (-2, 1)),))


class Leading(unittest.TestCase):
    def new_places(self, field, columns):
        """The places of the columns that are no sums of those before them."""
        rows = echelon_of(field, list(zip(*columns)))
        return [[number != (0, 1) for number in row].index(True) for row in rows]

    def test_against_all_inputs(self):
        for plant, most in counted_plants():
            start = unit_row(plant.size, plant.size - 1)
            for ticks in range(most + 1):
                new = self.new_places(plant.field, own_columns(plant, ticks))
                due = {}
                for puts in all_puts(plant, ticks):
                    flat = [number for put in puts for number in put]
                    if all(number == (0, 1) for place, number in enumerate(flat) if place not in new):
                        goal = own_run(plant, start, puts)[-1]
                        self.assertNotIn(goal, due)
                        due[goal] = puts
                for goal in all_rows(plant.field.prime, plant.size):
                    self.assertEqual(puts_to(plant, start, goal, ticks), due.get(goal))

    def test_run_ends_at_the_goal(self):
        for field in SMALL_FIELDS:
            for plant in varied_plants(field):
                size = plant.size
                start = packed_row(field, values(5, size, field))
                for ticks in (0, 1, size, 2 * size - 1, 2 * size, 2 * size + 1):
                    reached = own_run(plant, start, [unit_row(plant.inputs, 0)] * ticks)[-1]
                    goals = [packed_row(field, values(6, size, field)), unit_row(size, 0), zero_row(size), reached]
                    columns = own_columns(plant, ticks)
                    new, space = self.new_places(field, columns), echelon_of(field, columns)
                    drifted = own_run(plant, start, [zero_row(plant.inputs)] * ticks)[-1]
                    for goal in goals:
                        told = puts_to(plant, start, goal, ticks)
                        missing = tuple(field.minus(a, b) for a, b in zip(goal, drifted))
                        self.assertEqual(told is not None, lies_in(field, space, missing))
                        if told is not None:
                            self.assertTrue(all_tuples(told))
                            self.assertEqual([len(put) for put in told], [plant.inputs] * ticks)
                            self.assertEqual(own_run(plant, start, told)[-1], goal)
                            flat = [number for put in told for number in put]
                            self.assertTrue(all(flat[k] == (0, 1) for k in range(len(flat)) if k not in new))

    def test_new_columns_that_come_late(self):
        plant = plant_of(FRACTIONS, [[2, 0, 0], [0, 0, 1], [0, 0, 0]], [[1, 1], [0, 0], [1, 2]])
        for ticks in (6, 7, 8, 60):
            told = puts_to(plant, wholes(0, 0, 0), wholes(2 ** (ticks - 1), 5, 7), ticks)
            self.assertEqual(own_run(plant, wholes(0, 0, 0), told)[-1], wholes(2 ** (ticks - 1), 5, 7))
            self.assertEqual(told[1:-2], (wholes(0, 0),) * (ticks - 3))
            self.assertEqual((told[0][1], told[-2][1], told[-1][1]), ((0, 1),) * 3)

    def test_lists(self):
        for field in SMALL_FIELDS:
            for plant in varied_plants(field):
                start = packed_row(field, values(5, plant.size, field))
                goal = own_run(plant, start, [unit_row(plant.inputs, 0)] * 3)[-1]
                told = puts_to(plant, list(start), list(goal), 3)
                self.assertEqual(told, puts_to(plant, start, goal, 3))
                self.assertEqual(own_run(plant, start, told)[-1], goal)

    def test_no_ticks(self):
        for field in SMALL_FIELDS:
            plant = plant_of(field, [[1, 1], [0, 1]], [[1], [1]])
            self.assertEqual(puts_to(plant, wholes(1, 0), [(1, 1), (0, 1)], 0), ())
            self.assertEqual(puts_to(plant, [(0, 1), (0, 1)], wholes(0, 0), 0), ())
            self.assertIs(puts_to(plant, wholes(1, 0), wholes(1, 1), 0), None)
            self.assertIs(puts_to(ticks=0, goal=wholes(0, 0), start=wholes(1, 0), plant=plant), None)

    def test_by_hand(self):
        plant = plant_of(FRACTIONS, [[2]], [[1, 5]])
        self.assertEqual(puts_to(plant, wholes(1), wholes(7), 1), (wholes(5, 0),))
        self.assertEqual(puts_to(plant, wholes(1), wholes(7), 2), (((3, 2), (0, 1)), wholes(0, 0)))
        late = plant_of(FRACTIONS, [[0, 0], [0, 0]], [[0, 3, 1], [0, 0, 2]])
        self.assertEqual(puts_to(late, wholes(9, 9), wholes(4, 2), 2), (wholes(0, 0, 0), wholes(0, 1, 1)))

    def test_sixty_ticks(self):
        for field in SMALL_FIELDS:
            for plant in varied_plants(field):
                start = packed_row(field, values(5, plant.size, field))
                goal = packed_row(field, values(6, plant.size, field))
                told = puts_to(plant, start, goal, 60)
                if is_controllable(plant):
                    self.assertEqual(len(told), 60)
                if told is not None:
                    self.assertEqual(own_run(plant, start, told)[-1], goal)


class Refusals(unittest.TestCase):
    plant = Plant(FRACTIONS, unit_table(2), [wholes(1), wholes(1)])

    def test_ticks(self):
        for ticks in NO_TICKS:
            for call, rows in ((drift, [wholes(1, 1)]), (responses, []), (reach, []), (nulls, []),
                               (puts_to, [wholes(1, 1), wholes(1, 1)])):
                self.assertEqual(raised(call, self.plant, *rows, ticks), (BadTicks, (ticks,)))
        for call in (responses, reach, nulls):
            self.assertIs(raised(call, self.plant, 0), None)
            self.assertIs(raised(call, self.plant, 60), None)

    def test_rows_ahead_of_ticks(self):
        for row in NO_ROWS:
            for ticks in (1, 0, 60) + NO_TICKS:
                self.assertEqual(raised(drift, self.plant, row, ticks), (BadRow, ("x",)))
                self.assertEqual(raised(puts_to, self.plant, row, row, ticks), (BadRow, ("start",)))
                self.assertEqual(raised(puts_to, self.plant, row, wholes(1, 1), ticks), (BadRow, ("start",)))
                self.assertEqual(raised(puts_to, self.plant, wholes(1, 1), row, ticks), (BadRow, ("goal",)))
            self.assertEqual(raised(hull, self.plant, row), (BadRow, ("start",)))

    def test_numbers_of_another_field(self):
        plant = Plant(Field(7), [wholes(1)], [wholes(1)])
        for row in (wholes(7), wholes(-1), ((1, 2),)):
            self.assertEqual(raised(drift, plant, row, 1), (BadRow, ("x",)))
            self.assertEqual(raised(hull, plant, row), (BadRow, ("start",)))
            self.assertEqual(raised(puts_to, plant, row, wholes(1), 1), (BadRow, ("start",)))
            self.assertEqual(raised(puts_to, plant, wholes(1), row, 1), (BadRow, ("goal",)))

    def test_nothing_passed_in_is_changed(self):
        start, goal = [(1, 1), (0, 1)], [(3, 1), (2, 1)]
        told = puts_to(self.plant, start, goal, 1)
        space, moved = hull(self.plant, start), drift(self.plant, start, 0)
        self.assertEqual((start, goal), ([(1, 1), (0, 1)], [(3, 1), (2, 1)]))
        start[0] = goal[0] = (9, 1)
        self.assertEqual((told, moved), ((wholes(2),), wholes(1, 0)))
        self.assertEqual(space, unit_table(2))


if __name__ == "__main__":
    unittest.main()
