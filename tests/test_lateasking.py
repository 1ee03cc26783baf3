import unittest
from functools import lru_cache

from kinds import check_all_unlike, check_equal
from linear import first_new_of, hull_of, starts_of, weights_in
from measured import SHAPES, some_plants
from sums import FRACTIONS, NO_ROWS, SMALL_FIELDS, all_tuples, is_controllable, lies_in, lists, own_reply, own_run
from sums import plant_of, raised, varied_plants, wholes
from untaughthelm.asking import Asker
from untaughthelm.errors import BadAsker, BadRow, NotShown, Quarrel
from untaughthelm.fields import Field
from untaughthelm.lateasking import LateAsker, learn_late, learning_ticks
from untaughthelm.learning import Learning, learn
from untaughthelm.rows import unit_row, unit_table, zero_row

NO_SIZES = (0, 5, -1, True, False, None, "2", (2, 1), [2])
NO_INPUTS = (0, 4, -1, True, False, None, "1", (1, 1), [1])
NO_LATES = (-1, 7, True, False, None, "0", (0, 1), [0])


def strung(rows):
    return tuple(number for row in rows for number in row)


def own_choice(field, size, inputs, late, puts, states):
    tick = len(puts)
    if late > size:
        if tick == size * inputs + size + inputs + late:
            return None
        for place in range(inputs):
            if tick == size + place * (size + 1):
                return unit_row(inputs, place)
        return zero_row(inputs)
    if tick < late:
        return zero_row(inputs)
    rows = [states[at] + strung(puts[at:at + late + 1]) for at in range(tick - late)]
    return first_new_of(field, inputs, rows, states[tick - late] + strung(puts[tick - late:]))


def new_asker(plant, late, start):
    return LateAsker(plant.field, plant.size, plant.inputs, late, start if late == 0 else None)


def play(plant, start, late):
    """The LateAskers of a run, one for each tick, and the states that the plant was in."""
    askers = [new_asker(plant, late, start)]
    states = [tuple(start)]
    while askers[-1].choice is not None:
        states.append(own_reply(plant, states[-1], askers[-1].choice))
        due = len(states) - 1 - late
        askers.append(askers[-1].hear(states[due]) if due >= 0 else askers[-1].hear())
    return askers, states


def lates_of(size):
    return sorted({0, 1, size, size + 1, 6})


@lru_cache(None)
def plays():
    """Runs of plants of all kinds, at each of the lates in question."""
    told = []
    for field in SMALL_FIELDS:
        plants = list(some_plants(field)) + list(varied_plants(field))[::2 if field == FRACTIONS else 5]
        for place, plant in enumerate(plants):
            for late in lates_of(plant.size):
                start = starts_of(field, plant.size)[(place + late) % 4]
                askers, states = play(plant, start, late)
                told.append((plant, start, late, askers, states))
    return tuple(told)


class Ticks(unittest.TestCase):
    def test_all(self):
        for size, inputs in SHAPES:
            for late in range(7):
                due = size + inputs + inputs * (late if late < size else size)
                self.assertEqual(learning_ticks(size, inputs, late), due)
        self.assertEqual(learning_ticks(late=6, inputs=3, size=4), 19)

    def test_errors_in_their_order(self):
        for size in NO_SIZES:
            for inputs, late in ((1, 0), (0, 0), (0, 7)):
                self.assertEqual(raised(learning_ticks, size, inputs, late), (BadAsker, ("size",)))
        for inputs in NO_INPUTS:
            for late in (0, 7):
                self.assertEqual(raised(learning_ticks, 2, inputs, late), (BadAsker, ("inputs",)))
        for late in NO_LATES:
            self.assertEqual(raised(learning_ticks, 2, 1, late), (BadAsker, ("late",)))


class Making(unittest.TestCase):
    def test_attributes(self):
        for field in SMALL_FIELDS:
            for size, inputs in SHAPES:
                for late in range(7):
                    start = starts_of(field, size)[3] if late == 0 else None
                    asker = LateAsker(field, size, inputs, late, start)
                    self.assertEqual((asker.field, asker.size, asker.inputs, asker.late, asker.start),
                                     (field, size, inputs, late, start))
                    self.assertEqual((asker.puts, asker.tick), ((), 0))
                    self.assertEqual(asker.states, (start,) if late == 0 else ())
                    self.assertEqual(asker.asker, Asker(field, size, inputs))
                    self.assertEqual(asker.choice, own_choice(field, size, inputs, late, (), asker.states))
                    if late == 0:
                        check_equal(self, asker, LateAsker(field, size, inputs, 0, list(start)))
                        self.assertTrue(all_tuples(LateAsker(field, size, inputs, 0, list(start)).start))
                    else:
                        check_equal(self, asker, LateAsker(field, size, inputs, late))

    def test_words_in_their_order(self):
        for size in NO_SIZES:
            for inputs, late, start in ((1, 1, None), (0, 1, None), (0, 9, 3)):
                self.assertEqual(raised(LateAsker, FRACTIONS, size, inputs, late, start), (BadAsker, ("size",)))
        for inputs in NO_INPUTS:
            for late, start in ((1, None), (9, 3)):
                self.assertEqual(raised(LateAsker, FRACTIONS, 2, inputs, late, start), (BadAsker, ("inputs",)))
        for late in NO_LATES:
            for start in (None, wholes(1, 2), 3):
                self.assertEqual(raised(LateAsker, FRACTIONS, 2, 1, late, start), (BadAsker, ("late",)))
        for row in NO_ROWS:
            self.assertEqual(raised(LateAsker, FRACTIONS, 2, 1, 0, row), (BadAsker, ("start",)))
            for late in (1, 2, 6):
                if row is not None:
                    self.assertEqual(raised(LateAsker, FRACTIONS, 2, 1, late, row), (BadAsker, ("start",)))
        for late in range(1, 7):
            self.assertEqual(raised(LateAsker, FRACTIONS, 2, 1, late, wholes(1, 2)), (BadAsker, ("start",)))
        self.assertEqual(raised(LateAsker, FRACTIONS, 2, 1, 0), (BadAsker, ("start",)))
        self.assertIs(raised(LateAsker, start=wholes(1, 2), late=0, inputs=1, size=2, field=FRACTIONS), None)

    def test_the_start_is_not_kept(self):
        start = lists(wholes(1, 2))
        asker = LateAsker(FRACTIONS, 2, 1, 0, start)
        shown = lists(wholes(3, 4))
        heard = asker.hear(shown)
        start[0] = shown[0] = (9, 1)
        self.assertEqual((asker.start, asker.states), (wholes(1, 2), (wholes(1, 2),)))
        self.assertEqual(heard.states, (wholes(1, 2), wholes(3, 4)))
        self.assertTrue(all_tuples(heard.states))


class Choices(unittest.TestCase):
    def test_against_the_rule(self):
        words = set()
        for plant, start, late, askers, states in plays():
            for tick, asker in enumerate(askers):
                due = own_choice(plant.field, plant.size, plant.inputs, late, asker.puts, asker.states)
                self.assertEqual(asker.choice, due)
                self.assertTrue(due is None or all_tuples(asker.choice))
                words.add(due)
        self.assertEqual(words, {None} | {row for m in (1, 2, 3) for row in unit_table(m) + (zero_row(m),)})

    def test_at_late_0_it_is_the_rule_of_ask(self):
        for plant, start, late, askers, states in plays():
            if late == 0:
                for asker in askers:
                    self.assertEqual(asker.choice, asker.asker.ask(asker.states[-1]))

    def test_by_hand(self):
        # The plant x' = 2 x + u from 1, at late 1: the long rows are (1, 0, 0), (2, 0, 1) and (4, 1, 0).
        asker = LateAsker(FRACTIONS, 1, 1, 1)
        for put, shown in ((0, 1), (0, 2), (1, 4), (0, 9)):
            self.assertEqual(asker.choice, wholes(put))
            asker = asker.hear(wholes(shown))
        self.assertIs(asker.choice, None)
        self.assertEqual((asker.puts, asker.states), ((wholes(0), wholes(0), wholes(1), wholes(0)),
                                                      (wholes(1), wholes(2), wholes(4), wholes(9))))
        # At late 3, above the size, e1 stands at tick 1, and 3 rows are heard behind 6 inputs.
        asker = LateAsker(FRACTIONS, 1, 1, 3)
        for put, shown in ((0, None), (1, None), (0, 1), (0, 2), (0, 5), (0, 10)):
            self.assertEqual(asker.choice, wholes(put))
            asker = asker.hear(None if shown is None else wholes(shown))
        self.assertIs(asker.choice, None)
        self.assertEqual(asker.asker.known(), ((wholes(1),), (wholes(2), wholes(1))))


class Hearing(unittest.TestCase):
    def test_what_is_put_and_shown(self):
        for plant, start, late, askers, states in plays():
            for tick, asker in enumerate(askers):
                self.assertEqual((asker.field, asker.size, asker.inputs, asker.late),
                                 (plant.field, plant.size, plant.inputs, late))
                self.assertEqual(asker.start, start if late == 0 else None)
                self.assertEqual(asker.tick, tick)
                self.assertEqual(asker.puts, tuple(other.choice for other in askers[:tick]))
                self.assertEqual(asker.states, tuple(states[:max(0, tick - late + 1)]))
                self.assertTrue(all_tuples((asker.puts, asker.states)))

    def test_the_asker_has_heard_the_rows_in_order(self):
        for plant, start, late, askers, states in plays()[::3]:
            heard = Asker(plant.field, plant.size, plant.inputs)
            for tick, asker in enumerate(askers):
                if tick > late:
                    at = tick - late - 1
                    heard = heard.hear(states[at], asker.puts[at], states[at + 1])
                self.assertEqual(asker.asker, heard)

    def test_the_rows_heard_at_the_end_and_what_is_known_then(self):
        short = 0
        for plant, start, late, askers, states in plays():
            size, inputs = plant.size, plant.inputs
            heard = len(askers[-1].states) - 1
            space = hull_of(plant, start)
            if late <= size:
                self.assertEqual(heard, len(space) + inputs + inputs * late)
            else:
                self.assertEqual(heard, size * inputs + size + inputs)
            if is_controllable(plant):
                self.assertEqual(heard, learning_ticks(size, inputs, late))
            else:
                short += 1
            table = [own_reply(plant, x, zero_row(inputs)) for x in space]
            table += [own_reply(plant, zero_row(size), u) for u in unit_table(inputs)]
            self.assertEqual(askers[-1].asker.known(), (space, tuple(table)))
        self.assertGreater(short, 50)

    def test_not_shown(self):
        for plant, start, late, askers, states in plays()[::2]:
            state = states[0]
            for asker in askers:
                if asker.choice is None:
                    for shown in (None, state, 3):
                        self.assertEqual(raised(asker.hear, shown), (NotShown, (asker.tick,)))
                elif asker.tick + 1 >= late:
                    self.assertEqual(raised(asker.hear), (NotShown, (asker.tick,)))
                    self.assertEqual(raised(asker.hear, shown=None), (NotShown, (asker.tick,)))
                else:
                    for shown in (state, 3, (), False, "a"):
                        self.assertEqual(raised(asker.hear, shown), (NotShown, (asker.tick,)))

    def test_wrong_states(self):
        for late in (0, 1, 2, 3):
            asker = LateAsker(FRACTIONS, 2, 1, late, wholes(1, 2) if late == 0 else None)
            for _ in range(late - 1):
                asker = asker.hear()
            for shown in (wholes(1, 0), wholes(2, 0), wholes(4, 0)):
                for row in NO_ROWS:
                    if row is not None:
                        self.assertEqual(raised(asker.hear, row), (BadRow, ("shown",)))
                asker = asker.hear(shown)

    def test_quarrels(self):
        many = 0
        for plant, start, late, askers, states in plays():
            for asker in askers[:-1]:
                at = asker.tick - late
                if at < 0:
                    continue
                field, x, u = plant.field, states[at], (asker.puts + (asker.choice,))[at]
                kept = [x + u for x, u, y in asker.asker.kept]
                shown = states[at + 1][:-1] + (field.plus(states[at + 1][-1], (1, 1)),)
                if any(top for top, _ in x + u) and not lies_in(field, kept, x + u):
                    self.assertIs(raised(asker.hear, shown), None)
                    continue
                weights = tuple(field.negative(part) for part in weights_in(field, kept, x + u)) + ((1, 1),)
                self.assertEqual(raised(asker.hear, list(shown)), (Quarrel, (weights,)))
                self.assertEqual(raised(asker.hear, shown[:-1] + (7,)), (BadRow, ("shown",)))
                self.assertEqual(len(asker.states), max(0, asker.tick - late + 1))
                many += 1
        self.assertGreater(many, 1000)

    def test_equality(self):
        first = LateAsker(FRACTIONS, 1, 1, 1)
        shown = [first.hear(wholes(0)), first.hear(wholes(1)), first.hear(wholes(1)).hear(wholes(3))]
        things = [first, LateAsker(FRACTIONS, 2, 1, 1), LateAsker(FRACTIONS, 1, 2, 1), LateAsker(FRACTIONS, 1, 1, 2),
                  LateAsker(Field(5), 1, 1, 1), LateAsker(FRACTIONS, 1, 1, 0, wholes(1)),
                  LateAsker(FRACTIONS, 1, 1, 0, wholes(0)), LateAsker(FRACTIONS, 1, 1, 2).hear(), *shown]
        check_all_unlike(self, things)
        check_equal(self, first.hear([(1, 1)]), shown[1])
        check_equal(self, first.hear([(1, 1)]).hear(wholes(3)), shown[2])


class Learns(unittest.TestCase):
    def test_the_same_run(self):
        for plant, start, late, askers, states in plays():
            told = learn_late(plant, list(start), late)
            self.assertIsInstance(told, Learning)
            self.assertEqual((told.puts, told.states), (askers[-1].puts, askers[-1].states))
            self.assertEqual((told.space, told.table), askers[-1].asker.known())
            self.assertEqual(told.states, tuple(own_run(plant, start, told.puts)[:len(told.puts) - late + 1]))
            self.assertTrue(all_tuples((told.puts, told.states, told.space, told.table)))
            if late == 0:
                self.assertEqual(told, learn(plant, start))

    def test_all_lates(self):
        plant = plant_of(FRACTIONS, [[1, 2, 0], [0, 1, 1], [3, 0, 1]], [[0, 1], [1, 0], [0, 0]])
        for late in range(7):
            told = learn_late(late=late, start=wholes(0, 0, 0), plant=plant)
            self.assertEqual(len(told.states) - 1, learning_ticks(3, 2, late))
            self.assertEqual(len(told.puts), len(told.states) - 1 + late)
            self.assertEqual(tuple(zip(*told.table)), tuple(a + b for a, b in zip(plant.a, plant.b)))

    def test_errors_in_their_order(self):
        plant = plant_of(FRACTIONS, [[1, 2], [3, 4]], [[1], [1]])
        for row in NO_ROWS:
            for late in (0, 2) + NO_LATES:
                self.assertEqual(raised(learn_late, plant, row, late), (BadRow, ("start",)))
        for late in NO_LATES:
            self.assertEqual(raised(learn_late, plant, wholes(0, 0), late), (BadAsker, ("late",)))


if __name__ == "__main__":
    unittest.main()
