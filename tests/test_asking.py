import unittest
from random import Random

from heard import askers, new_rows, own_closed, own_known_reply, questions, unit_rows, z_of
from kinds import check_all_unlike, check_equal, check_unlike
from linear import first_new_of, starts_of, weights_in
from measured import SHAPES, some_plants
from sums import FRACTIONS, NO_ROWS, SMALL_FIELDS, all_rows, all_sums, all_tuples, echelon_of, lists, own_reply
from sums import plant_of, raised, sum_in, varied_plants, wholes
from untaughthelm.asking import Asker
from untaughthelm.errors import BadAsker, BadRow, Quarrel
from untaughthelm.fields import Field
from untaughthelm.rows import unit_row, unit_table, zero_row

GOOD = (wholes(1, 0), wholes(1), wholes(2, 3))
OTHER = (wholes(0, 1), wholes(0), wholes(1, 1))
NO_SIZES = (0, 5, -1, True, False, None, "2", (2, 1), [2])


class Making(unittest.TestCase):
    def test_attributes(self):
        for plant, kept, asker in askers():
            for told in (kept, list(kept), lists(kept), tuple(list(row) for row in kept)):
                made = Asker(plant.field, plant.size, plant.inputs, told)
                self.assertEqual((made.field, made.size, made.inputs), (plant.field, plant.size, plant.inputs))
                self.assertEqual((made.kept, made.rank), (kept, len(kept)))
                self.assertTrue(all_tuples(made.kept))
                check_equal(self, made, asker)
        named = Asker(kept=[GOOD], inputs=1, size=2, field=FRACTIONS)
        self.assertEqual(named.kept, (GOOD,))
        self.assertEqual(Asker(FRACTIONS, 2, 1).kept, ())

    def test_words_in_their_order(self):
        for size in NO_SIZES:
            for inputs, kept in ((1, ()), (0, ()), (9, None), (1, [None])):
                self.assertEqual(raised(Asker, FRACTIONS, size, inputs, kept), (BadAsker, ("size",)))
        for inputs in (0, 4, -1, True, False, None, "1", (1, 1), [1]):
            for kept in ((), None, [None]):
                self.assertEqual(raised(Asker, FRACTIONS, 2, inputs, kept), (BadAsker, ("inputs",)))
        for size, inputs in SHAPES:
            self.assertIs(raised(Asker, FRACTIONS, size, inputs), None)

    def test_kept_rows_that_are_none(self):
        wrong = [None, 3, "ab", {0: GOOD}, iter([GOOD]), Asker(FRACTIONS, 2, 1), [None], [3], ["abc"], [GOOD[:2]],
                 [GOOD + (wholes(1),)], [()], (GOOD, None), [GOOD, ()], [{0: 1, 1: 2, 2: 3}]]
        for place, width in enumerate((2, 1, 2)):
            for row in NO_ROWS + (wholes(*range(1, width)), wholes(*range(width + 1))):
                if not FRACTIONS.holds_row(row, width):
                    bad = list(OTHER)
                    bad[place] = row
                    wrong += [[bad], [tuple(bad)], [GOOD, bad]]
        for kept in wrong:
            self.assertEqual(raised(Asker, FRACTIONS, 2, 1, kept), (BadAsker, ("kept",)), kept)
        # Numbers of another field.
        self.assertEqual(raised(Asker, Field(2), 2, 1, [GOOD]), (BadAsker, ("kept",)))

    def test_kept_rows_that_are_not_new(self):
        zero = (wholes(0, 0), wholes(0), wholes(0, 0))
        double = (wholes(2, 0), wholes(2), wholes(4, 6))
        both = (wholes(1, 1), wholes(1), wholes(3, 4))
        for kept in ([zero], [GOOD, zero], [zero, GOOD], [GOOD, GOOD], [GOOD, double], [double, GOOD],
                     [GOOD, OTHER, both], [both, GOOD, OTHER]):
            self.assertEqual(raised(Asker, FRACTIONS, 2, 1, kept), (BadAsker, ("kept",)))
        self.assertIs(raised(Asker, FRACTIONS, 2, 1, [GOOD, OTHER]), None)
        for plant in some_plants(Field(3)):
            rows = unit_rows(plant)
            for z in all_rows(3, plant.size + plant.inputs)[::40]:
                row = (z[:plant.size], z[plant.size:], own_reply(plant, z[:plant.size], z[plant.size:]))
                self.assertEqual(raised(Asker, plant.field, plant.size, plant.inputs, rows + [row]),
                                 (BadAsker, ("kept",)))

    def test_equality(self):
        things = [Asker(FRACTIONS, 1, 1), Asker(FRACTIONS, 2, 1), Asker(FRACTIONS, 1, 2), Asker(Field(5), 1, 1),
                  Asker(FRACTIONS, 2, 1, [GOOD]), Asker(FRACTIONS, 2, 1, [OTHER]), Asker(FRACTIONS, 2, 1, [GOOD, OTHER]),
                  Asker(FRACTIONS, 2, 1, [OTHER, GOOD]), Asker(FRACTIONS, 2, 1, [GOOD[:2] + OTHER[2:]])]
        check_all_unlike(self, things)
        check_equal(self, Asker(FRACTIONS, 2, 1, [GOOD]), Asker(FRACTIONS, 2, 1, (lists(GOOD),)))

    def test_lists_that_change_later(self):
        rows = lists([GOOD, OTHER])
        asker = Asker(FRACTIONS, 2, 1, rows)
        rows[0][0][0] = rows[1][2][1] = (9, 1)
        rows.pop()
        self.assertEqual(asker.kept, (GOOD, OTHER))
        x, u, y = lists((wholes(0, 0), wholes(1), wholes(5, 5)))
        heard = asker.hear(x, u, y)
        x[0] = u[0] = y[0] = (9, 1)
        self.assertEqual(heard.kept[-1], (wholes(0, 0), wholes(1), wholes(5, 5)))
        self.assertEqual((asker.kept, asker.rank), ((GOOD, OTHER), 2))


class Asking(unittest.TestCase):
    def test_the_first_new_input(self):
        told = {}
        for plant, kept, asker in askers():
            for x in starts_of(plant.field, plant.size):
                due = first_new_of(plant.field, plant.inputs, [z_of(row) for row in kept], x)
                self.assertEqual(asker.ask(list(x)), due)
                self.assertTrue(due is None or all_tuples(asker.ask(x=x)))
                told[due] = True
        # None, the zero inputs and each unit input.
        due = {None} | {zero_row(inputs) for inputs in (1, 2, 3)} | {u for inputs in (1, 2, 3) for u in unit_table(inputs)}
        self.assertEqual(set(told), due)

    def test_by_hand(self):
        asker = Asker(FRACTIONS, 1, 2)
        self.assertEqual(asker.ask(wholes(1)), wholes(0, 0))
        self.assertEqual(asker.ask(wholes(0)), wholes(1, 0))
        asker = asker.hear(wholes(0), wholes(1, 0), wholes(4))
        self.assertEqual(asker.ask(wholes(0)), wholes(0, 1))
        asker = asker.hear(wholes(2), wholes(3, 0), wholes(16))
        self.assertEqual(asker.ask(wholes(5)), wholes(0, 1))
        asker = asker.hear(wholes(2), wholes(3, 7), wholes(16))
        self.assertIs(asker.ask(wholes(5)), None)


class Hearing(unittest.TestCase):
    def test_new_rows_are_kept_and_known_ones_are_not(self):
        for plant, kept, asker in askers():
            for x, u in questions(plant, kept):
                y = own_reply(plant, x, u)
                known = own_known_reply(plant.field, kept, x, u) is not None
                heard = asker.hear(list(x), list(u), list(y))
                self.assertEqual(heard.kept, kept if known else kept + ((x, u, y),))
                self.assertEqual(heard.rank, len(heard.kept))
                self.assertTrue(all_tuples(heard.kept))
                check_equal(self, heard, Asker(plant.field, plant.size, plant.inputs, heard.kept))
                self.assertEqual((asker.kept, asker.rank), (kept, len(kept)))
                if known:
                    check_equal(self, heard, asker)
                else:
                    check_unlike(self, heard, asker)

    def test_rows_that_quarrel(self):
        many = 0
        for plant, kept, asker in askers():
            field = plant.field
            for x, u in questions(plant, kept):
                known = own_known_reply(field, kept, x, u)
                if known is None:
                    continue
                y = known[:-1] + (field.plus(known[-1], (1, 1)),)
                error, told = raised(asker.hear, x, list(u), list(y))
                self.assertIs(error, Quarrel)
                weights = told[0]
                opposed = [field.negative(part) for part in weights_in(field, [z_of(row) for row in kept], x + u)]
                self.assertEqual(weights, tuple(opposed) + ((1, 1),))
                rows = kept + ((x, u, y),)
                self.assertEqual(sum_in(field, weights, [z_of(row) for row in rows], len(x + u)), zero_row(len(x + u)))
                self.assertNotEqual(sum_in(field, weights, [row[2] for row in rows], len(x)), zero_row(len(x)))
                self.assertTrue(all_tuples(weights))
                many += 1
        self.assertGreater(many, 300)

    def test_zeros_with_another_reply(self):
        for plant, kept, asker in askers():
            zeros = (zero_row(plant.size), zero_row(plant.inputs))
            self.assertEqual(raised(asker.hear, *zeros, unit_row(plant.size, 0)),
                             (Quarrel, (zero_row(len(kept)) + ((1, 1),),)))
            check_equal(self, asker.hear(*zeros, zeros[0]), asker)

    def test_by_hand(self):
        asker = Asker(FRACTIONS, 1, 1, [(wholes(1), wholes(0), wholes(2)), (wholes(2), wholes(1), wholes(5))])
        self.assertEqual(raised(asker.hear, wholes(0), wholes(2), wholes(3)), (Quarrel, (wholes(4, -2, 1),)))
        check_equal(self, asker.hear(y=wholes(2), u=wholes(2), x=wholes(0)), asker)

    def test_errors_in_their_order(self):
        for asker in (Asker(FRACTIONS, 2, 2), Asker(FRACTIONS, 2, 2, [(wholes(1, 0), wholes(0, 0), wholes(1, 1))])):
            good = wholes(2, 0), wholes(0, 0), wholes(7, 7)
            for row in NO_ROWS:
                self.assertEqual(raised(asker.hear, row, row, row), (BadRow, ("x",)))
                self.assertEqual(raised(asker.hear, good[0], row, row), (BadRow, ("u",)))
                self.assertEqual(raised(asker.hear, good[0], good[1], row), (BadRow, ("y",)))
                self.assertEqual(raised(asker.hear, wholes(0, 0), wholes(0, 0), row), (BadRow, ("y",)))
                self.assertEqual(raised(asker.ask, row), (BadRow, ("x",)))
                self.assertEqual(raised(asker.closed, row), (BadRow, ("x",)))
                self.assertEqual(raised(asker.reply, row, row), (BadRow, ("x",)))
                self.assertEqual(raised(asker.reply, good[0], row), (BadRow, ("u",)))


class Knowing(unittest.TestCase):
    def test_replies(self):
        counts = {True: 0, False: 0}
        for plant, kept, asker in askers():
            for x, u in questions(plant, kept):
                told = asker.reply(list(x), u)
                self.assertEqual(told, own_known_reply(plant.field, kept, x, u))
                counts[told is None] += 1
                if told is not None:
                    self.assertEqual(told, own_reply(plant, x, u))
                    self.assertTrue(all_tuples(told))
        self.assertGreater(min(counts.values()), 300)

    def test_replies_by_small_rests(self):
        source = Random(4)
        for prime, size, inputs in ((2, 1, 1), (2, 2, 1), (3, 1, 2), (2, 2, 2)):
            for many in range(size + inputs + 1):
                rows = [tuple(tuple((source.randrange(prime), 1) for _ in range(width))
                              for width in (size, inputs, size)) for _ in range(9)]
                kept = new_rows(Field(prime), rows)[:many]
                asker = Asker(Field(prime), size, inputs, kept)
                known = all_sums(prime, size + inputs, [z_of(row) for row in kept])
                for z in all_rows(prime, size + inputs):
                    self.assertEqual(asker.reply(z[:size], z[size:]) is not None, z in known)

    def test_known(self):
        counts = {True: 0, False: 0}
        for plant, kept, asker in askers():
            field, size, inputs = plant.field, plant.size, plant.inputs
            moved = [own_known_reply(field, kept, zero_row(size), u) for u in unit_table(inputs)]
            told = asker.known()
            self.assertEqual(told is None, None in moved)
            counts[told is None] += 1
            if told is not None:
                self.assertIsInstance(told, tuple)
                self.assertTrue(all_tuples(told))
                space, table = told
                # The states in question are the sums of kept rows whose inputs add up to 0.
                free = [row for row in echelon_of(field, [tuple(u) + tuple(x) for x, u, y in kept])
                        if not any(top for top, _ in row[:inputs])]
                self.assertEqual(space, tuple(row[inputs:] for row in free))
                due = [own_reply(plant, x, zero_row(inputs)) for x in space] + moved
                self.assertEqual(table, tuple(due))
        self.assertGreater(min(counts.values()), 60)

    def test_known_with_no_states(self):
        plant = plant_of(FRACTIONS, [[1, 2], [3, 4]], [[5, 6], [7, 8]])
        asker = Asker(FRACTIONS, 2, 2, unit_rows(plant)[2:])
        self.assertEqual(asker.known(), ((), (wholes(5, 7), wholes(6, 8))))
        self.assertIs(Asker(FRACTIONS, 2, 2, unit_rows(plant)[:3]).known(), None)
        self.assertIs(Asker(FRACTIONS, 2, 2, unit_rows(plant)[:2] + unit_rows(plant)[3:]).known(), None)

    def test_closed(self):
        counts = {True: 0, False: 0}
        for plant, kept, asker in self.closed_askers():
            for x in starts_of(plant.field, plant.size)[::3]:
                told = asker.closed(list(x))
                due = own_closed(plant.field, plant.inputs, kept, x)
                self.assertEqual(told, due)
                self.assertTrue(told is None or all_tuples(told))
                counts[told is None] += 1
        self.assertGreater(min(counts.values()), 100)

    def closed_askers(self):
        yield from askers()
        for field in SMALL_FIELDS:
            for plant in varied_plants(field):
                rows = unit_rows(plant)
                for kept in (rows, rows[:1] + rows[plant.size:], rows[1:], rows[plant.size:]):
                    yield plant, kept, Asker(field, plant.size, plant.inputs, kept)

    def test_closed_by_hand(self):
        plant = plant_of(FRACTIONS, [[2, 0], [0, 3]], [[1], [0]])
        rows = unit_rows(plant)
        self.assertEqual(Asker(FRACTIONS, 2, 1, rows).closed(wholes(0, 0)), (wholes(1, 0),))
        self.assertEqual(Asker(FRACTIONS, 2, 1, rows).closed(wholes(5, 1)), (wholes(1, 0), wholes(0, 1)))
        self.assertEqual(Asker(FRACTIONS, 2, 1, [rows[0], rows[2]]).closed(x=wholes(4, 0)), (wholes(1, 0),))
        self.assertIs(Asker(FRACTIONS, 2, 1, [rows[0], rows[2]]).closed(wholes(0, 1)), None)
        self.assertIs(Asker(FRACTIONS, 2, 1, rows[1:]).closed(wholes(0, 0)), None)
        self.assertIs(Asker(FRACTIONS, 2, 1, rows[:2]).closed(wholes(0, 0)), None)
        still = plant_of(FRACTIONS, [[2, 0], [0, 3]], [[0], [0]])
        self.assertEqual(Asker(FRACTIONS, 2, 1, unit_rows(still)[2:]).closed(wholes(0, 0)), ())


if __name__ == "__main__":
    unittest.main()
