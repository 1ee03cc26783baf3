import unittest
from functools import lru_cache
from random import Random

from kinds import check_all_unlike, check_equal
from linear import silent_on, weights_in
from sums import FRACTIONS, NO_ROWS, SMALL_FIELDS, all_rows, all_tuples, dots, is_controllable, lies_in, lists, own_reply
from sums import own_run, packed, plant_of, raised, rank_in, sum_in, wholes
from untaughthelm.errors import BadFoe, BadRow
from untaughthelm.fields import Field
from untaughthelm.lateasking import LateAsker
from untaughthelm.latefoes import LateFoe
from untaughthelm.plants import Plant
from untaughthelm.rows import unit_row, unit_table, zero_row

ZERO = (0, 1)
ONE = (1, 1)


def own_tie(field, size, late, puts):
    width = min(late, size)
    rows = []
    while True:
        following = [at for at in range(len(rows), len(rows) + width)]
        row = tuple(puts[at][0] if at < len(puts) else ZERO for at in following)
        if not any(top for top, _ in row) or (rows and lies_in(field, rows, row)):
            return len(rows), weights_in(field, rows, row) if rows else ()
        rows.append(row)


def own_plant(field, size, late, puts):
    """The tables of F, B and K written down place by place, and A = F - B K."""
    tick, weights = own_tie(field, size, late, puts)
    columns = {}
    for place in range(1, size):
        columns[place] = unit_row(size, place)
    if tick < size:
        columns[size] = unit_row(size, 0)
    if tick >= 1:
        columns[tick] = tuple(weights) + (ZERO,) * (size - tick)
    b = unit_row(size, tick) if tick < size else unit_row(size, 0)
    k = [puts[at][0] if at < min(tick, len(puts)) else ZERO for at in range(size)]
    a = [[field.minus(columns[j + 1][i], field.times(b[i], k[j])) for j in range(size)] for i in range(size)]
    return Plant(field, a, [[number] for number in b])


def forced_inputs(field, size, late, seed):
    """Inputs that follow from what is shown, and drawn ones where that is little."""
    foe = LateFoe(field, size, late)
    source = Random(seed)
    for tick in range(14):
        told = [number for state in foe.shown[-2:] for number in state]
        put = dots(field, told, [packed(field, source.randint(-2, 2)) for _ in told])
        foe = foe.put([put if tick % 3 else packed(field, source.randint(-2, 2))])
    return foe.puts


def puts_of(field, size, late):
    yield ()
    yield (wholes(0),) * 12
    yield (wholes(1),) * 12
    yield tuple(wholes(tick % 2) for tick in range(12))
    yield (wholes(0),) * size + (wholes(1),) + (wholes(0),) * 9
    yield wholes(1), wholes(0)
    for seed in range(3):
        source = Random(seed)
        many = source.randint(5, 14)
        yield tuple((packed(field, source.randint(-3, 3)),) for _ in range(many))
        yield forced_inputs(field, size, late, seed)
    # A row that grows by itself: behind the first ticks it is a sum of what came before.
    row = [packed(field, number) for number in (1, 2, -1, 3)][:size]
    for _ in range(10):
        row.append(dots(field, row[-size:], [packed(field, number) for number in (2, 1, 1, -1)][:size]))
    yield tuple((number,) for number in row)


@lru_cache(None)
def foes():
    """Each foe with all that came before it, put by put."""
    told = []
    for field in SMALL_FIELDS:
        for size in (1, 2, 3, 4):
            for late in range(7) if field == FRACTIONS else {0, 1, size, 6}:
                for puts in puts_of(field, size, late):
                    row = [LateFoe(field, size, late)]
                    for put in puts:
                        row.append(row[-1].put(put))
                    told.append((field, size, late, puts, tuple(row)))
    return tuple(told)


class Making(unittest.TestCase):
    def test_attributes(self):
        for field, size, late, puts, row in foes():
            for told in (puts, list(puts), lists(puts)):
                foe = LateFoe(field, size, late, told)
                self.assertEqual((foe.field, foe.size, foe.late, foe.puts), (field, size, late, puts))
                self.assertEqual((foe.shown, foe.rows, foe.rank), (row[-1].shown, row[-1].rows, row[-1].rank))
                check_equal(self, foe, row[-1])
        self.assertEqual(LateFoe(puts=[[ONE]], late=1, size=2, field=FRACTIONS).puts, (wholes(1),))

    def test_words_in_their_order(self):
        for size in (0, 5, -1, True, None, "2", [2]):
            for late, puts in ((0, ()), (7, ()), (9, None)):
                self.assertEqual(raised(LateFoe, FRACTIONS, size, late, puts), (BadFoe, ("size",)))
        for late in (-1, 7, True, False, None, "0", [0]):
            for puts in ((), None, [None]):
                self.assertEqual(raised(LateFoe, FRACTIONS, 2, late, puts), (BadFoe, ("late",)))
        wrong = [None, 3, "ab", {0: wholes(1)}, iter([wholes(1)]), [None], [3], ["a"], [wholes(1, 2)], [()],
                 [wholes(1), wholes(1, 1)], [wholes(1), None], [[(2, 4)]], [ONE], ONE, [[1]]]
        for puts in wrong:
            for late in (0, 3):
                self.assertEqual(raised(LateFoe, FRACTIONS, 2, late, puts), (BadFoe, ("puts",)))
        self.assertEqual(raised(LateFoe, Field(2), 2, 1, [wholes(2)]), (BadFoe, ("puts",)))

    def test_wrong_inputs(self):
        for row in [row for row in NO_ROWS + (wholes(1, 2),) if not FRACTIONS.holds_row(row, 1)]:
            self.assertEqual(raised(LateFoe(FRACTIONS, 2, 1).put, row), (BadRow, ("u",)))
            self.assertEqual(raised(LateFoe(FRACTIONS, 2, 1, [wholes(1)]).put, row), (BadRow, ("u",)))

    def test_put(self):
        for field, size, late, puts, row in foes():
            for many, foe in enumerate(row):
                self.assertEqual(foe.puts, puts[:many])
                self.assertTrue(all_tuples((foe.puts, foe.shown, foe.rows)))

    def test_what_is_passed_in_is_not_kept(self):
        puts = [[ONE], [(2, 1)]]
        foe = LateFoe(FRACTIONS, 2, 1, puts)
        u = [(3, 1)]
        heard = foe.put(u)
        puts[0][0] = u[0] = (9, 1)
        puts.pop()
        self.assertEqual(foe.puts, (wholes(1), wholes(2)))
        self.assertEqual(heard.puts, (wholes(1), wholes(2), wholes(3)))

    def test_equality(self):
        things = [LateFoe(FRACTIONS, 1, 1), LateFoe(FRACTIONS, 2, 1), LateFoe(FRACTIONS, 1, 2), LateFoe(Field(5), 1, 1),
                  LateFoe(FRACTIONS, 1, 1, [wholes(0)]), LateFoe(FRACTIONS, 1, 1, [wholes(1)]),
                  LateFoe(FRACTIONS, 1, 1, [wholes(0), wholes(1)])]
        check_all_unlike(self, things)
        check_equal(self, LateFoe(FRACTIONS, 1, 1).put([ZERO]).put([ONE]), things[-1])


class Plants(unittest.TestCase):
    def test_tie(self):
        ticks = set()
        for field, size, late, puts, row in foes():
            for foe in row[::2]:
                told = foe.tie()
                self.assertEqual(told, own_tie(field, size, late, foe.puts))
                self.assertTrue(all_tuples(told))
                self.assertLessEqual(told[0], min(late, size))
                self.assertEqual(len(told[1]), told[0])
                ticks.add((size, min(late, size), told[0]))
        self.assertEqual(ticks, {(n, width, t) for n in (1, 2, 3, 4) for width in range(n + 1) for t in range(width + 1)})

    def test_start_and_plant(self):
        for field, size, late, puts, row in foes():
            for foe in row[::2]:
                tick = foe.tie()[0]
                self.assertEqual(foe.start(), unit_row(size, 0) if tick else zero_row(size))
                self.assertEqual(foe.plant(), own_plant(field, size, late, foe.puts))
                self.assertTrue(is_controllable(foe.plant()))

    def test_the_run_begins_with_the_unit_states(self):
        for field, size, late, puts, row in foes():
            tick, _ = row[-1].tie()
            states = own_run(row[-1].plant(), row[-1].start(), puts)
            self.assertEqual(tuple(states[:tick]), unit_table(size)[:min(tick, len(states))])
            # The next ticks tell nothing new, as far as their inputs were put.
            zs = [x + u for x, u in zip(states, puts)]
            for at in range(tick, min(tick + min(late, size), len(zs))):
                self.assertEqual(rank_in(field, zs[:at + 1]), rank_in(field, zs[:tick]))

    def test_by_hand(self):
        foe = LateFoe(FRACTIONS, 2, 1, [wholes(3), wholes(6), wholes(5)])
        self.assertEqual(foe.tie(), (1, wholes(2)))
        self.assertEqual(foe.start(), wholes(1, 0))
        # F e1 = 2 e1, F e2 = e1, B = e2, K = (3, 0).
        self.assertEqual(foe.plant(), plant_of(FRACTIONS, [[2, 1], [-3, 0]], [[0], [1]]))
        self.assertEqual(foe.shown, (wholes(1, 0), wholes(2, 0), wholes(4, 0)))
        self.assertEqual((len(foe.rows), foe.rank), (2, 1))
        self.assertEqual(LateFoe(FRACTIONS, 2, 0, [wholes(3)]).tie(), (0, ()))
        self.assertEqual(LateFoe(FRACTIONS, 1, 6, [wholes(3)]).tie(), (1, wholes(0)))


class Shown(unittest.TestCase):
    def test_as_many_as_are_due(self):
        for field, size, late, puts, row in foes():
            for foe in row:
                self.assertEqual(len(foe.shown), max(0, len(foe.puts) - late + 1))

    def test_the_run_of_each_later_plant_begins_with_what_was_shown(self):
        for field, size, late, puts, row in foes():
            states = tuple(own_run(row[-1].plant(), row[-1].start(), puts))
            for foe in row:
                self.assertEqual(foe.shown, states[:len(foe.shown)])
            for foe in row[1::3]:
                self.assertEqual(tuple(own_run(foe.plant(), foe.start(), foe.puts))[:len(foe.shown)], foe.shown)

    def test_rows_and_their_rank(self):
        for field, size, late, puts, row in foes():
            for foe in row:
                self.assertEqual(foe.rows, tuple(zip(foe.shown, foe.puts, foe.shown[1:])))
                self.assertEqual(len(foe.rows), max(0, len(foe.shown) - 1))
                if len(foe.rows) <= size + min(late, size):
                    self.assertLessEqual(foe.rank, size)
            for foe in row[::3]:
                self.assertEqual(foe.rank, rank_in(field, [x + u for x, u, y in foe.rows]))

    def test_all_short_runs_by_two(self):
        # Whatever is put: the rank stays below n + 1 for n + min(late, n) rows.
        for size in (1, 2):
            for late in (0, 1, 2, 3):
                many = size + min(late, size)
                for puts in all_rows(2, many + late):
                    foe = LateFoe(Field(2), size, late, [(put,) for put in puts])
                    self.assertEqual(len(foe.rows), many)
                    self.assertLessEqual(foe.rank, size)


class Unlike(unittest.TestCase):
    def test_another_plant_gives_all_rows(self):
        counts = {"none": 0, "controllable": 0, "later": 0, "no": 0}
        for field, size, late, puts, row in foes():
            for foe in row[::3] + row[-1:]:
                told = foe.unlike()
                if foe.rank == size + 1:
                    self.assertIs(told, None)
                    counts["none"] += 1
                    continue
                plant = foe.plant()
                self.assertNotEqual(told, plant)
                for x, u, y in foe.rows:
                    self.assertEqual(own_reply(told, x, u), y)
                silent = silent_on(field, size + 1, [x + u for x, u, y in foe.rows])[0]
                number = 1
                while not is_controllable(bent(plant, number, silent)):
                    number += 1
                    if number == field.prime:
                        number = 1
                        counts["no"] += 1
                        break
                else:
                    counts["later" if number > 1 else "controllable"] += 1
                self.assertEqual(told, bent(plant, number, silent))
                if field == FRACTIONS:
                    self.assertTrue(is_controllable(told))
        self.assertGreater(min(counts.values()), 3, counts)

    def test_nobody_knows_the_plant_too_soon(self):
        for field, size, late, puts, row in foes():
            for foe in row:
                if len(foe.rows) == size + min(late, size):
                    self.assertIsNot(foe.unlike(), None)

    def test_a_late_asker_ends_at_the_promised_row(self):
        for field in SMALL_FIELDS:
            for size in (1, 2, 3, 4):
                for late in range(7):
                    foe = LateFoe(field, size, late)
                    asker = LateAsker(field, size, 1, late, foe.shown[0] if late == 0 else None)
                    while asker.choice is not None:
                        foe = foe.put(asker.choice)
                        due = asker.tick + 1 - late
                        if len(foe.rows) <= size + min(late, size):
                            self.assertIsNot(foe.unlike(), None)
                        asker = asker.hear(foe.shown[due] if due >= 0 else None)
                    self.assertEqual(len(asker.states) - 1, size + 1 + min(late, size))
                    self.assertEqual(len(foe.rows), size + 1 + min(late, size))
                    self.assertEqual(foe.rank, size + 1)
                    self.assertIs(foe.unlike(), None)


def bent(plant, number, silent):
    field = plant.field
    rows = [sum_in(field, (ONE, packed(field, number)), (a + b, silent), plant.size + 1)
            for a, b in zip(plant.a, plant.b)]
    return Plant(field, [row[:-1] for row in rows], [row[-1:] for row in rows])


if __name__ == "__main__":
    unittest.main()
