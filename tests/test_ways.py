import unittest
from functools import lru_cache
from itertools import product
from random import Random

from heard import askers, new_rows, own_known_reply, questions, unit_rows
from kinds import check_all_unlike, check_equal
from linear import lead_of, silent_on, solved
from sums import FRACTIONS, SMALL_FIELDS, all_plants, all_rows, all_sums, all_tuples, dots, echelon_of, lies_in, lists
from sums import own_reply, packed_row, plant_of, sum_in, values, wholes
from untaughthelm.fields import Field
from untaughthelm.rows import unit_row, unit_table, zero_row
from untaughthelm.ways import Flat, inputs_to, known_reply, way_back, ways


def members(flat):
    """All rows of a Flat by a small prime."""
    prime, width = flat.field.prime, len(flat.point)
    sums = all_sums(prime, width, flat.directions)
    return {tuple(flat.field.plus(*couple) for couple in zip(flat.point, row)) for row in sums}


@lru_cache(None)
def small_kept():
    """Kept rows by small rests, of plants and of none, with all sums of them: rows (x, u, known reply)."""
    source = Random(6)
    told = []
    for prime, size, inputs in ((2, 1, 1), (3, 1, 1), (2, 2, 1), (3, 2, 1), (2, 1, 2), (2, 2, 2), (2, 3, 1)):
        for many in range(size + inputs + 1):
            for _ in range(3):
                rows = [tuple(tuple((source.randrange(prime), 1) for _ in range(width))
                              for width in (size, inputs, size)) for _ in range(9)]
                kept = new_rows(Field(prime), rows)[:many]
                width = 2 * size + inputs
                sums = [(row[:size], row[size:size + inputs], row[size + inputs:])
                        for row in all_sums(prime, width, [x + u + y for x, u, y in kept])]
                told.append((prime, size, inputs, kept, sums))
    return tuple(told)


def small_flats(prime, size):
    source = Random(size)
    yield Flat(Field(prime), zero_row(size))
    yield Flat(Field(prime), zero_row(size), unit_table(size))
    for many in (0, 1, 2):
        rows = [tuple((source.randrange(prime), 1) for _ in range(size)) for _ in range(many + 1)]
        yield Flat(Field(prime), rows[0], rows[1:])


def leads_into(field, kept, x, flat):
    """Whether some input has a known reply in the flat at the state x."""
    silent = silent_on(field, len(flat.point), flat.directions)
    equations = [[row[0][place] for row in kept] for place in range(len(x))]
    equations += [[dots(field, row, y) for _, _, y in kept] for row in silent]
    due = list(x) + [dots(field, row, flat.point) for row in silent]
    return solved(field, equations, due) is not None


class KnownReplies(unittest.TestCase):
    def test_against_sums(self):
        counts = {True: 0, False: 0}
        for plant, kept, asker in askers():
            for x, u in questions(plant, kept):
                told = known_reply(plant.field, lists(kept), list(x), list(u))
                self.assertEqual(told, own_known_reply(plant.field, kept, x, u))
                self.assertEqual(told, asker.reply(x, u))
                self.assertTrue(told is None or all_tuples(told))
                counts[told is None] += 1
        self.assertGreater(min(counts.values()), 300)

    def test_small_rests(self):
        for prime, size, inputs, kept, sums in small_kept():
            known = {x + u: y for x, u, y in sums}
            for z in all_rows(prime, size + inputs):
                self.assertEqual(known_reply(Field(prime), kept, z[:size], z[size:]), known.get(z))

    def test_zeros_are_always_known(self):
        for field in SMALL_FIELDS:
            for size in (1, 2, 3, 4):
                self.assertEqual(known_reply(field, (), zero_row(size), wholes(0, 0)), zero_row(size))
                self.assertIs(known_reply(field, (), zero_row(size), wholes(0, 1)), None)
        self.assertEqual(known_reply(u=wholes(2), x=wholes(2), kept=((wholes(1), wholes(1), wholes(4)),), field=FRACTIONS),
                         wholes(8))


class Flats(unittest.TestCase):
    def test_one_form(self):
        for field in SMALL_FIELDS:
            for width in (1, 2, 3, 4):
                for many in range(5):
                    point = packed_row(field, values(width, width, field))
                    rows = [packed_row(field, values(seed, width, field)) for seed in range(many)]
                    rows += [zero_row(width)] * (many % 2) + rows[:1]
                    flat = Flat(field, list(point), lists(rows))
                    self.assertEqual(flat.field, field)
                    self.assertEqual(flat.directions, echelon_of(field, rows))
                    self.assertTrue(all_tuples((flat.point, flat.directions)))
                    for row in flat.directions:
                        self.assertEqual(flat.point[lead_of(row)], (0, 1))
                    less = tuple(field.minus(*couple) for couple in zip(point, flat.point))
                    self.assertTrue(lies_in(field, list(flat.directions) + [zero_row(width)], less))
                    others = [sum_in(field, packed_row(field, [1, 2, -1, 3, 1, 1][:1 + len(rows)]), [point] + rows, width)]
                    for other in others:
                        self.assertTrue(flat.holds(list(other)))
                        check_equal(self, flat, Flat(field, other, tuple(reversed(rows))))

    def test_holds(self):
        for prime, width in ((2, 1), (2, 3), (3, 2), (2, 4)):
            for flat in small_flats(prime, width):
                inside = members(flat)
                for row in all_rows(prime, width):
                    self.assertEqual(flat.holds(row), row in inside)

    def test_equal_exactly_if_the_same_set(self):
        for prime, width in ((2, 2), (3, 1), (3, 2)):
            rows = all_rows(prime, width)
            flats = [Flat(Field(prime), point) for point in rows]
            flats += [Flat(Field(prime), point, [row]) for point in rows for row in rows[1:]]
            flats += [Flat(Field(prime), point, rows) for point in rows[:3]]
            for one, other in product(flats, repeat=2):
                same = members(one) == members(other)
                self.assertEqual(one == other, same)
                self.assertEqual(one != other, not same)

    def test_other_things(self):
        things = [Flat(FRACTIONS, wholes(1, 2)), Flat(FRACTIONS, wholes(1, 3)), Flat(FRACTIONS, wholes(1, 2), [wholes(1, 1)]),
                  Flat(Field(5), wholes(1, 2)), Flat(FRACTIONS, wholes(1)), Flat(FRACTIONS, wholes(0, 0), unit_table(2))]
        check_all_unlike(self, things)
        check_equal(self, things[0], Flat(directions=[wholes(0, 0)], point=[(1, 1), (2, 1)], field=FRACTIONS))

    def test_by_hand(self):
        flat = Flat(FRACTIONS, wholes(3, 4), [wholes(2, 2), wholes(1, 1), wholes(0, 0)])
        self.assertEqual((flat.point, flat.directions), (wholes(0, 1), (wholes(1, 1),)))
        self.assertTrue(flat.holds(wholes(5, 6)))
        self.assertFalse(flat.holds(wholes(5, 5)))

    def test_what_is_passed_in_is_not_kept(self):
        point, directions = lists(wholes(1, 2)), lists([wholes(0, 1)])
        flat = Flat(FRACTIONS, point, directions)
        self.assertEqual((point, directions), ([(1, 1), (2, 1)], [[(0, 1), (1, 1)]]))
        point[0] = directions[0][1] = (9, 1)
        self.assertEqual((flat.point, flat.directions), (wholes(1, 0), (wholes(0, 1),)))


class WaysBack(unittest.TestCase):
    def test_small_rests(self):
        counts = {True: 0, False: 0}
        for prime, size, inputs, kept, sums in small_kept():
            for flat in small_flats(prime, size):
                inside = members(flat)
                due = {x for x, u, y in sums if y in inside}
                told = way_back(Field(prime), lists(kept), flat)
                self.assertEqual(told is None, due == set())
                counts[told is None] += 1
                if told is not None:
                    self.assertEqual(members(told), due)
                    self.assertTrue(all_tuples((told.point, told.directions)))
        self.assertGreater(min(counts.values()), 30)

    def test_all_sizes(self):
        counts = {True: 0, False: 0}
        for plant, kept, asker in askers()[::2]:
            field, size = plant.field, plant.size
            for flat in (Flat(field, zero_row(size)), Flat(field, packed_row(field, [3, -1, 2, 5][:size])),
                         Flat(field, packed_row(field, [1] * size), [packed_row(field, [1, 2, 3, 4][:size])])):
                told = way_back(field, kept, flat)
                counts[told is None] += 1
                if told is None:
                    equations = [[dots(field, row, y) for _, _, y in kept] for row in silent_on(field, size, flat.directions)]
                    due = [dots(field, row, flat.point) for row in silent_on(field, size, flat.directions)]
                    self.assertIs(solved(field, equations, due), None)
                    continue
                for row in (zero_row(size), unit_row(size, 0), packed_row(field, [2, 1, 1, 3][:size]), told.point):
                    self.assertEqual(told.holds(row), leads_into(field, kept, row, flat))
                for direction in told.directions:
                    self.assertTrue(leads_into(field, kept, sum_in(field, wholes(1, 1), (told.point, direction), size), flat))
        self.assertGreater(min(counts.values()), 100)

    def test_nothing_kept(self):
        # The reply to (0, 0) alone is known.
        self.assertEqual(way_back(FRACTIONS, (), Flat(FRACTIONS, wholes(0, 0))), Flat(FRACTIONS, wholes(0, 0)))
        self.assertEqual(way_back(flat=Flat(FRACTIONS, wholes(1, 1), [wholes(2, 2)]), kept=[], field=FRACTIONS),
                         Flat(FRACTIONS, wholes(0, 0)))
        self.assertEqual(way_back(FRACTIONS, (), Flat(FRACTIONS, wholes(5, 1), unit_table(2))), Flat(FRACTIONS, wholes(0, 0)))
        self.assertIs(way_back(FRACTIONS, (), Flat(FRACTIONS, wholes(1, 0))), None)


class Ways(unittest.TestCase):
    def test_small_rests(self):
        for prime, size, inputs, kept, sums in small_kept():
            for goal in all_rows(prime, size)[::2]:
                told = ways(Field(prime), lists(kept), list(goal), 5)
                self.assertIsInstance(told, tuple)
                self.assertEqual(len(told), 6)
                inside = {goal}
                for entry in told:
                    self.assertEqual(set() if entry is None else members(entry), inside)
                    inside = {x for x, u, y in sums if y in inside}

    def test_known_plants_against_all_inputs(self):
        for prime, size, inputs in ((2, 1, 1), (3, 1, 1), (2, 2, 1), (2, 1, 2)):
            states, puts = all_rows(prime, size), all_rows(prime, inputs)
            for plant in all_plants(prime, size, inputs)[::5]:
                for goal in states:
                    told = ways(plant.field, unit_rows(plant), goal, 4)
                    for ticks, entry in enumerate(told):
                        due = {x for x in states if any(led(plant, x, row) == goal for row in product(puts, repeat=ticks))}
                        self.assertEqual(set() if entry is None else members(entry), due)

    def test_behind_the_first_none_all_are_none(self):
        # The goal is reached from 2 alone, and 2 from nowhere.
        kept = [(wholes(2, 0), wholes(0), wholes(1, 1)), (wholes(0, 0), wholes(1), wholes(0, 0))]
        told = ways(FRACTIONS, kept, wholes(1, 1), 4)
        self.assertEqual(told, (Flat(FRACTIONS, wholes(1, 1)), Flat(FRACTIONS, wholes(2, 0)), None, None, None))
        self.assertEqual(ways(ticks=3, goal=wholes(1), kept=(), field=FRACTIONS), (Flat(FRACTIONS, wholes(1)), None, None, None))
        self.assertEqual(ways(FRACTIONS, (), wholes(0), 2), (Flat(FRACTIONS, wholes(0)),) * 3)

    def test_sixty_ticks_and_none(self):
        plant = plant_of(FRACTIONS, [[1, 1], [0, 1]], [[0], [1]])
        self.assertEqual(ways(FRACTIONS, unit_rows(plant), wholes(4, 5), 0), (Flat(FRACTIONS, wholes(4, 5)),))
        told = ways(FRACTIONS, unit_rows(plant), wholes(4, 5), 60)
        self.assertEqual(len(told), 61)
        self.assertEqual(told[1], Flat(FRACTIONS, wholes(0, 4), [wholes(1, -1)]))
        self.assertEqual(told[2:], (Flat(FRACTIONS, wholes(0, 0), unit_table(2)),) * 59)


def led(plant, x, puts):
    for put in puts:
        x = own_reply(plant, x, put)
    return x


class Inputs(unittest.TestCase):
    def test_small_rests(self):
        counts = {True: 0, False: 0}
        for prime, size, inputs, kept, sums in small_kept():
            for flat in small_flats(prime, size):
                inside = members(flat)
                for x in all_rows(prime, size):
                    due = {u for state, u, y in sums if state == x and y in inside}
                    told = inputs_to(Field(prime), inputs, lists(kept), list(x), flat)
                    self.assertEqual(told is None, due == set())
                    counts[told is None] += 1
                    if told is not None:
                        self.assertEqual(members(told), due)
                        self.assertEqual(len(told.point), inputs)
                        self.assertTrue(all_tuples((told.point, told.directions)))
        self.assertGreater(min(counts.values()), 100)

    def test_all_sizes(self):
        found = 0
        for plant, kept, asker in askers()[::2]:
            field, size, inputs = plant.field, plant.size, plant.inputs
            for x, u in questions(plant, kept):
                flat = Flat(field, own_reply(plant, x, u), [packed_row(field, [1, 0, 2, 1][:size])])
                told = inputs_to(field, inputs, kept, x, flat)
                self.assertEqual(told is not None, leads_into(field, kept, x, flat))
                if told is None:
                    continue
                found += 1
                for put in (told.point, *(sum_in(field, wholes(1, 1), (told.point, row), inputs) for row in told.directions)):
                    self.assertTrue(flat.holds(own_known_reply(field, kept, x, put)))
                if own_known_reply(field, kept, x, u) is not None:
                    self.assertTrue(told.holds(u))
        self.assertGreater(found, 300)

    def test_nothing_kept(self):
        self.assertEqual(inputs_to(FRACTIONS, 2, (), wholes(0), Flat(FRACTIONS, wholes(0))), Flat(FRACTIONS, wholes(0, 0)))
        self.assertIs(inputs_to(FRACTIONS, 2, (), wholes(1), Flat(FRACTIONS, wholes(0))), None)
        self.assertIs(inputs_to(flat=Flat(FRACTIONS, wholes(1)), x=wholes(0), kept=(), inputs=2, field=FRACTIONS), None)
        flat = Flat(FRACTIONS, wholes(1), [wholes(1)])
        self.assertEqual(inputs_to(FRACTIONS, 1, (), wholes(0), flat), Flat(FRACTIONS, wholes(0)))

    def test_by_hand(self):
        kept = [(wholes(1), wholes(0), wholes(2)), (wholes(2), wholes(1), wholes(5))]
        self.assertEqual(inputs_to(FRACTIONS, 1, kept, wholes(5), Flat(FRACTIONS, wholes(0))), Flat(FRACTIONS, wholes(-10)))

    def test_nothing_passed_in_is_changed(self):
        kept = lists([(wholes(1), wholes(0), wholes(2)), (wholes(2), wholes(1), wholes(5))])
        flat, x, goal = Flat(FRACTIONS, wholes(0)), [(5, 1)], [(3, 1)]
        inputs_to(FRACTIONS, 1, kept, x, flat)
        way_back(FRACTIONS, kept, flat)
        ways(FRACTIONS, kept, goal, 4)
        known_reply(FRACTIONS, kept, x, goal)
        self.assertEqual(kept, lists([(wholes(1), wholes(0), wholes(2)), (wholes(2), wholes(1), wholes(5))]))
        self.assertEqual((x, goal), ([(5, 1)], [(3, 1)]))


if __name__ == "__main__":
    unittest.main()
