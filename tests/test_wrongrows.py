import unittest
from functools import lru_cache
from itertools import combinations, product
from random import Random

from kinds import check_result
from linear import weights_in
from measured import measured_rows, record_of
from sums import FRACTIONS, NO_ROWS, SMALL_FIELDS, all_plants, all_rows, all_tuples, dots, lists, own_reply, packed_row
from sums import plant_of, raised, rank_in, sum_in, value_table, wholes
from untaughthelm.errors import BadRecord, BadRow, BadWrong, NoFit
from untaughthelm.fields import Field
from untaughthelm.records import Record
from untaughthelm.rows import unit_row, zero_row
from untaughthelm.unlike import fitting_plant
from untaughthelm.wrongrows import Disguise, disguise, fitting_lots, loose, sure_reply

# Two rows with one z and unlike replies, and a third one that is all zeros but for its reply.
QUARREL = Record(FRACTIONS, 1, 1, [(wholes(1), wholes(1), wholes(0)), (wholes(1), wholes(1), wholes(1)),
                                   (wholes(0), wholes(0), wholes(5))])
LONG = Record(FRACTIONS, 1, 1, [(wholes(k), wholes(1), wholes(k)) for k in range(13)])


def z_of(row):
    return row[0] + row[1]


def is_fitted(field, rows):
    """Whether some plant fits rows: if the replies add nothing to the rank of the z."""
    return rank_in(field, [z_of(row) + row[2] for row in rows]) == rank_in(field, [z_of(row) for row in rows])


def own_lots(record, wrong):
    return counted_lots(record.field.prime, record.rows, wrong)


@lru_cache(None)
def counted_lots(prime, rows, wrong):
    return tuple(lot for lot in combinations(range(len(rows)), min(wrong, len(rows)))
                 if is_fitted(Field(prime), [row for place, row in enumerate(rows) if place not in lot]))


def spoiled(record, places):
    """The record with other replies at some places."""
    rows = [(x, u, tuple(record.field.plus(part, (1, 1)) for part in y)) if place in places else (x, u, y)
            for place, (x, u, y) in enumerate(record.rows)]
    return Record(record.field, record.size, record.inputs, rows)


def missed_by(record, plant):
    return [k for k, (x, u, y) in enumerate(record.rows) if own_reply(plant, x, u) != y]


def misses(record, row):
    return [k for k, (x, u, y) in enumerate(record.rows) if dots(record.field, row, x + u) != (0, 1)]


def small_records():
    source = Random(3)
    for prime, size, inputs, times in ((2, 1, 1, 12), (3, 1, 1, 12), (3, 1, 2, 8), (2, 1, 3, 8), (2, 2, 1, 12)):
        for many in (0, 1, 2, 3, 5):
            for _ in range(times // 2):
                rows = [tuple(tuple((source.randrange(prime), 1) for _ in range(width))
                              for width in (size, inputs, size)) for _ in range(many)]
                yield Record(Field(prime), size, inputs, rows)


def long_records():
    """Records of 0, 1, 2 and 12 rows of plants, some of them with wrong rows."""
    for field in SMALL_FIELDS:
        for size, inputs in ((1, 1), (2, 1), (1, 3), (3, 2), (4, 3)):
            if size + inputs > 4 and field.prime not in (None, 3):
                continue
            plant = plant_of(field, value_table(3, size, size, field), value_table(4, size, inputs, field))
            for many in (0, 1, 2, 12):
                record = Record(field, size, inputs, measured_rows(plant, many, 5))
                yield record
                for places in ((0,), (3, 11), (1, 4, 7)):
                    if places[-1] < many:
                        yield spoiled(record, places)


def own_sure_reply(record, lots, z):
    replies = []
    for lot in lots:
        rows = [row for place, row in enumerate(record.rows) if place not in lot]
        weights = weights_in(record.field, [z_of(row) for row in rows], z)
        if weights is None:
            return None
        replies.append(sum_in(record.field, weights, [y for x, u, y in rows], record.size))
    return replies[0] if len(set(replies)) == 1 else None


class Lots(unittest.TestCase):
    def test_against_all_lots(self):
        none = some = 0
        for record in list(long_records()) + list(small_records()):
            for wrong in (0, 1, 2):
                told = fitting_lots(record, wrong)
                self.assertEqual(told, own_lots(record, wrong))
                self.assertTrue(all_tuples(told))
                none += told == ()
                some += len(told) > 1
        self.assertGreater(min(none, some), 20)

    def test_possible_plants(self):
        for record in small_records():
            for wrong in (0, 1, 2):
                lots = fitting_lots(wrong=wrong, record=record)
                for plant in all_plants(record.field.prime, record.size, record.inputs):
                    missed = missed_by(record, plant)
                    self.assertEqual(len(missed) <= wrong, any(set(missed) <= set(lot) for lot in lots))

    def test_few_rows(self):
        empty = Record(FRACTIONS, 2, 1)
        self.assertEqual([fitting_lots(empty, wrong) for wrong in (0, 1, 2)], [((),)] * 3)
        self.assertEqual([fitting_lots(QUARREL, wrong) for wrong in (0, 1, 2)], [(), (), ((0, 2), (1, 2))])
        self.assertEqual([fitting_lots(QUARREL.cut(2, 3), wrong) for wrong in (0, 1, 2)], [(), ((0,),), ((0,),)])
        self.assertEqual(fitting_lots(QUARREL.cut(0, 2), 2), ((0, 1),))
        self.assertEqual(fitting_lots(QUARREL.cut(0, 2), 1), ((0,), (1,)))
        self.assertEqual(fitting_lots(LONG.cut(0, 12), 2), tuple(combinations(range(12), 2)))


class SureReplies(unittest.TestCase):
    def test_against_all_possible_plants(self):
        counts = {"sure": 0, "open": 0, "none": 0}
        for record in small_records():
            plants = all_plants(record.field.prime, record.size, record.inputs)
            for wrong in (0, 1, 2):
                possible = [plant for plant in plants if len(missed_by(record, plant)) <= wrong]
                for z in all_rows(record.field.prime, record.size + record.inputs):
                    x, u = z[:record.size], z[record.size:]
                    if not possible:
                        self.assertEqual(raised(sure_reply, record, wrong, x, u), (NoFit, ()))
                        counts["none"] += 1
                        continue
                    found = {own_reply(plant, x, u) for plant in possible}
                    told = sure_reply(record, wrong, list(x), u)
                    self.assertEqual(told, found.pop() if len(found) == 1 else None)
                    counts["open" if told is None else "sure"] += 1
        self.assertGreater(min(counts.values()), 50)

    def test_wrong_rows_among_twelve(self):
        counts = {True: 0, False: 0}
        for record in long_records():
            field, size, width = record.field, record.size, record.size + record.inputs
            for wrong in (0, 2):
                lots = own_lots(record, wrong)
                for z in (packed_row(field, [2, 5, -1, 3, 4, 1, 1][:width]), unit_row(width, 0)):
                    if lots == ():
                        self.assertEqual(raised(sure_reply, record, wrong, z[:size], z[size:]), (NoFit, ()))
                        continue
                    told = sure_reply(record, wrong, z[:size], list(z[size:]))
                    self.assertEqual(told, own_sure_reply(record, lots, z))
                    self.assertTrue(told is None or all_tuples(told))
                    counts[told is None] += 1
        self.assertGreater(min(counts.values()), 20)

    def test_zeros_are_sure(self):
        for size, inputs in ((1, 1), (4, 3)):
            record = Record(FRACTIONS, size, inputs)
            for wrong in (0, 1, 2):
                self.assertEqual(sure_reply(record, wrong, zero_row(size), zero_row(inputs)), zero_row(size))
                self.assertIs(sure_reply(record, wrong, unit_row(size, 0), zero_row(inputs)), None)

    def test_unlike_lots(self):
        # Either of the first two rows may be wrong, and they reply unlike.
        record = QUARREL.cut(0, 2)
        self.assertIs(sure_reply(record, 1, wholes(1), wholes(1)), None)
        self.assertIs(sure_reply(record, 2, wholes(1), wholes(1)), None)
        told = record.with_row(wholes(1), wholes(1), wholes(1))
        self.assertEqual(sure_reply(told, 1, wholes(2), wholes(2)), wholes(2))
        self.assertEqual(sure_reply(u=wholes(2), x=wholes(2), wrong=1, record=told), wholes(2))
        self.assertIs(sure_reply(told, 1, wholes(1), wholes(0)), None)


class Loose(unittest.TestCase):
    def check(self, record, wrong):
        told = loose(record, wrong)
        if told is not None:
            self.assertTrue(all_tuples(told))
            self.assertEqual(len(told), record.size + record.inputs)
            self.assertTrue(record.field.holds_row(told, len(told)))
            self.assertNotEqual(told, zero_row(len(told)))
            self.assertLessEqual(len(misses(record, told)), 2 * wrong)
        return told

    def test_against_all_rows(self):
        found = {True: 0, False: 0}
        for record in small_records():
            for wrong in (0, 1, 2):
                rows = [row for row in all_rows(record.field.prime, record.size + record.inputs)
                        if any(top for top, _ in row) and len(misses(record, row)) <= 2 * wrong]
                told = self.check(record, wrong)
                self.assertEqual(told is None, rows == [])
                found[told is None] += 1
        self.assertGreater(min(found.values()), 20)

    def test_all_sizes(self):
        for record in long_records():
            for wrong in (0, 1, 2):
                told = self.check(record, wrong)
                zs = [z_of(row) for row in record.rows]
                width = record.size + record.inputs
                many = max(len(zs) - 2 * wrong, 0)
                if record.size + record.inputs <= 3 or len(zs) < 12:
                    due = any(rank_in(record.field, rows) < width for rows in combinations(zs, many))
                    self.assertEqual(told is not None, due)

    def test_the_examples(self):
        zs = (wholes(1, 0), wholes(0, 1), wholes(1, 1), wholes(1, 2))
        rows = [(z[:1], z[1:], wholes(0)) for z in zs]
        self.assertIs(loose(Record(FRACTIONS, 1, 1, rows), 1), None)
        for three in product([rows[0], rows[1], rows[3], (wholes(0), wholes(0), wholes(4))], repeat=3):
            self.assertIsNot(self.check(Record(FRACTIONS, 1, 1, three), 1), None)

    def test_replies_do_not_matter(self):
        for record in list(small_records())[::3]:
            for wrong in (0, 1, 2):
                other = spoiled(record, range(0, len(record), 2))
                self.assertEqual(loose(record, wrong) is None, loose(wrong=wrong, record=other) is None)


class Disguises(unittest.TestCase):
    def check(self, record, wrong):
        told = disguise(record, wrong)
        self.assertEqual(told is None, loose(record, wrong) is None)
        if told is None:
            return
        self.assertIsInstance(told, Disguise)
        field, plant, other = record.field, told.plant, told.other
        self.assertEqual(plant, fitting_plant(record))
        rows = [tuple(field.minus(b, a) for a, b in zip(a_row + b_row, a_other + b_other))
                for a_row, b_row, a_other, b_other in zip(plant.a, plant.b, other.a, other.b)]
        self.assertEqual(rows, rows[:1] * record.size)
        self.assertNotEqual(rows[0], zero_row(record.size + record.inputs))
        places = misses(record, rows[0])
        self.assertLessEqual(len(places), 2 * wrong)
        many = min(wrong, len(places))
        self.assertEqual((told.lot, told.other_lot), (tuple(places[:many]), tuple(places[many:])))
        due = [(x, u, own_reply(other if k in told.lot else plant, x, u)) for k, (x, u, y) in enumerate(record.rows)]
        self.assertEqual(told.record, Record(field, record.size, record.inputs, due))
        self.assertEqual(tuple(missed_by(told.record, plant)), told.lot)
        self.assertEqual(tuple(missed_by(told.record, other)), told.other_lot)
        self.assertTrue(all_tuples((told.lot, told.other_lot, told.record.rows)))

    def test_small_records(self):
        for record in small_records():
            for wrong in (0, 1, 2):
                if is_fitted(record.field, record.rows):
                    self.check(record, wrong)
                else:
                    self.assertEqual(raised(disguise, record, wrong), (NoFit, ()))

    def test_all_sizes(self):
        for record in long_records():
            for wrong in (0, 1, 2):
                if is_fitted(record.field, record.rows):
                    self.check(record, wrong)

    def test_loose_rows_of_few_misses(self):
        for field in SMALL_FIELDS:
            plant = plant_of(field, [[2, 1], [0, 1]], [[1], [1]])
            for zs in ([wholes(1, 0, 0)] * 5, [wholes(1, 0, 0), wholes(0, 1, 0), wholes(0, 0, 1)],
                       [wholes(0, 0, 1)] * 3 + [wholes(0, 1, 0), wholes(1, 1, 0)]):
                rows = [(z[:2], z[2:], own_reply(plant, z[:2], z[2:])) for z in zs]
                for wrong in (0, 1, 2):
                    self.check(Record(field, 2, 1, rows), wrong)

    def test_where_none_is_loose_no_two_plants_are_possible(self):
        for record in small_records():
            if record.size + record.inputs == 2 and len(record) == 5 and loose(record, 1) is None:
                plants = all_plants(record.field.prime, record.size, record.inputs)
                for replies in product(range(record.field.prime), repeat=5):
                    rows = [(x, u, wholes(y)) for (x, u, _), y in zip(record.rows, replies)]
                    other = Record(record.field, record.size, record.inputs, rows)
                    self.assertLessEqual(len([1 for plant in plants if len(missed_by(other, plant)) <= 1]), 1)

    def test_no_fit_where_none_would_be_due(self):
        zs = (wholes(1, 0), wholes(0, 1), wholes(1, 1), wholes(1, 2), wholes(1, 2))
        record = Record(FRACTIONS, 1, 1, [(z[:1], z[1:], wholes(k)) for k, z in enumerate(zs)])
        self.assertIs(loose(record, 1), None)
        self.assertEqual(raised(disguise, record, 1), (NoFit, ()))
        self.assertIs(disguise(Record(FRACTIONS, 1, 1, [(z[:1], z[1:], wholes(0)) for z in zs]), 1), None)
        # And where one is loose.
        self.assertEqual(raised(disguise, QUARREL, 2), (NoFit, ()))

    def test_it_is_a_result(self):
        check_result(self, Disguise, ("record", "plant", "lot", "other", "other_lot"))


class Refusals(unittest.TestCase):
    CALLS = (fitting_lots, loose, disguise)

    def test_bad_wrong(self):
        good = Record(FRACTIONS, 1, 1)
        for wrong in (3, -1, True, False, None, "1", (1, 1), [1], 10 ** 30):
            for record in (good, QUARREL, LONG):
                for call in self.CALLS:
                    self.assertEqual(raised(call, record, wrong), (BadWrong, (wrong,)))
                for x in (wholes(1), None):
                    self.assertEqual(raised(sure_reply, record, wrong, x, x), (BadWrong, (wrong,)))

    def test_many_rows(self):
        for record in (LONG, LONG.joined(QUARREL)):
            for wrong in (0, 1, 2):
                for call in self.CALLS:
                    self.assertEqual(raised(call, record, wrong), (BadRecord, ("many",)))
                for x in (wholes(1), None):
                    self.assertEqual(raised(sure_reply, record, wrong, x, x), (BadRecord, ("many",)))
        for call in self.CALLS:
            self.assertIs(raised(call, LONG.cut(0, 12), 2), None)

    def test_rows_ahead_of_no_fit(self):
        good = Record(FRACTIONS, 2, 2, [(wholes(1, 0), wholes(0, 0), wholes(1, 1))])
        bad = good.with_row(wholes(2, 0), wholes(0, 0), wholes(1, 1)).with_row(wholes(0, 0), wholes(0, 0), wholes(1, 1))
        for record, wrong in ((good, 0), (good, 2), (bad, 0), (bad, 1)):
            for row in NO_ROWS:
                self.assertEqual(raised(sure_reply, record, wrong, row, row), (BadRow, ("x",)))
                self.assertEqual(raised(sure_reply, record, wrong, row, wholes(1, 1)), (BadRow, ("x",)))
                self.assertEqual(raised(sure_reply, record, wrong, wholes(1, 1), row), (BadRow, ("u",)))
        for wrong in (0, 1):
            self.assertEqual(raised(sure_reply, bad, wrong, wholes(0, 0), wholes(0, 0)), (NoFit, ()))
        self.assertIs(raised(sure_reply, bad, 2, wholes(0, 0), wholes(0, 0)), None)

    def test_nothing_passed_in_is_changed(self):
        x, u = lists(wholes(3)), lists(wholes(1))
        record = record_of(plant_of(FRACTIONS, [[2]], [[1]]), 6, 1)
        rows = record.rows
        told = sure_reply(record, 1, x, u)
        self.assertEqual((x, u, record.rows), ([(3, 1)], [(1, 1)], rows))
        x[0] = (9, 1)
        self.assertEqual(told, wholes(7))
        disguise(record, 2)
        self.assertEqual(record.rows, rows)


if __name__ == "__main__":
    unittest.main()
