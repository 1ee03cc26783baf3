import unittest
from functools import lru_cache

from kinds import check_result
from linear import first_new_of, hull_of, starts_of
from measured import some_plants
from sums import FRACTIONS, NO_ROWS, SMALL_FIELDS, all_tuples, is_controllable, lists, own_reply, own_run, plant_of
from sums import raised, rank_in, varied_plants, wholes
from untaughthelm.asking import Asker
from untaughthelm.errors import BadAsker, BadRow
from untaughthelm.learning import Learning, learn, learning_fault
from untaughthelm.rows import unit_table, zero_row


def plants(field):
    yield from some_plants(field)
    yield from varied_plants(field)


@lru_cache(None)
def learnings():
    told = []
    for field in SMALL_FIELDS:
        for place, plant in enumerate(plants(field)):
            starts = starts_of(field, plant.size)
            for start in (starts[0], starts[1 + place % 3]):
                told.append((plant, start, learn(plant, start)))
    return tuple(told)


def fault_of(plant, learning):
    return learning_fault(plant.field, plant.size, plant.inputs, learning)


def changed(learning, **parts):
    told = {name: getattr(learning, name) for name in ("puts", "states", "space", "table")}
    return Learning(**{**told, **parts})


def put_at(rows, place, row):
    return rows[:place] + (row,) + rows[place + 1:]


def another(field, row):
    return (field.plus(row[0], (1, 1)),) + tuple(row[1:])


# A plant with a state that no input moves, and one with a mode that goes to rest by itself.
PARTED = plant_of(FRACTIONS, [[2, 1, 0], [0, 3, 0], [0, 0, 5]], [[1, 0], [0, 2], [0, 0]])


class Learns(unittest.TestCase):
    def test_runs(self):
        dimensions = set()
        for plant, start, learning in learnings():
            field, size, inputs = plant.field, plant.size, plant.inputs
            space = hull_of(plant, start)
            dimensions.add((len(space), size))
            self.assertIsInstance(learning, Learning)
            self.assertEqual(len(learning.puts), len(space) + inputs)
            self.assertEqual(learning.states, tuple(own_run(plant, start, learning.puts)))
            self.assertEqual(learning.space, space)
            due = [own_reply(plant, x, zero_row(inputs)) for x in space]
            due += [own_reply(plant, zero_row(size), u) for u in unit_table(inputs)]
            self.assertEqual(learning.table, tuple(due))
            self.assertTrue(all_tuples((learning.puts, learning.states, learning.space, learning.table)))
            zs = []
            for x, u in zip(learning.states, learning.puts):
                self.assertEqual(u, first_new_of(field, inputs, zs, x))
                zs.append(x + u)
            self.assertIs(first_new_of(field, inputs, zs, learning.states[-1]), None)
            self.assertEqual(rank_in(field, zs), len(zs))
        # Each dimension that a space can have in each size, that of 0 alone too.
        self.assertEqual(dimensions, {(d, n) for n in (1, 2, 3, 4) for d in range(n + 1)})

    def test_the_plant_is_known_after_n_and_m_ticks_if_it_is_controllable(self):
        many = 0
        for plant, start, learning in learnings():
            if is_controllable(plant):
                many += 1
                self.assertEqual(len(learning.puts), plant.size + plant.inputs)
                self.assertEqual(learning.space, unit_table(plant.size))
                columns = learning.table
                self.assertEqual(tuple(zip(*columns)), tuple(a + b for a, b in zip(plant.a, plant.b)))
        self.assertGreater(many, 100)

    def test_closed_tells_the_same_space(self):
        for plant, start, learning in learnings():
            asker = Asker(plant.field, plant.size, plant.inputs)
            for x, u, y in zip(learning.states, learning.puts, learning.states[1:]):
                asker = asker.hear(x, u, y)
            self.assertEqual(asker.rank, len(learning.puts))
            self.assertEqual(asker.closed(start), learning.space)
            self.assertEqual(asker.known(), (learning.space, learning.table))

    def test_by_hand(self):
        learning = learn(plant_of(FRACTIONS, [[2]], [[1]]), wholes(1))
        self.assertEqual(learning, Learning((wholes(0), wholes(1)), (wholes(1), wholes(2), wholes(5)), (wholes(1),),
                                            (wholes(2), wholes(1))))
        learning = learn(start=wholes(0), plant=plant_of(FRACTIONS, [[2]], [[0]]))
        self.assertEqual(learning, Learning((wholes(1),), (wholes(0), wholes(0)), (), (wholes(0),)))

    def test_wrong_starts(self):
        plant = plant_of(FRACTIONS, [[1, 2], [3, 4]], [[1], [1]])
        for row in NO_ROWS:
            self.assertEqual(raised(learn, plant, row), (BadRow, ("start",)))

    def test_the_start_is_not_kept(self):
        start = lists(wholes(1, 2))
        learning = learn(plant_of(FRACTIONS, [[1, 2], [3, 4]], [[1], [1]]), start)
        self.assertEqual(start, [(1, 1), (2, 1)])
        start[0] = (9, 1)
        self.assertEqual(learning.states[0], wholes(1, 2))

    def test_it_is_a_result(self):
        check_result(self, Learning, ("puts", "states", "space", "table"))


class Faults(unittest.TestCase):
    def test_none_for_what_learn_returns(self):
        for plant, start, learning in learnings():
            self.assertIs(fault_of(plant, learning), None)
            parts = {name: lists(getattr(learning, name)) for name in ("puts", "states", "space", "table")}
            self.assertIs(fault_of(plant, Learning(**parts)), None)
            self.assertEqual(lists(learning.states), parts["states"])

    def test_states(self):
        for plant, start, learning in learnings():
            for states in (learning.states[:-1], learning.states + learning.states[-1:], ()):
                told = changed(learning, states=states, puts=learning.puts[::-1], space=None, table=None)
                self.assertEqual(fault_of(plant, told), (0, "states"))
            self.assertEqual(fault_of(plant, changed(learning, puts=learning.puts[:-1])), (0, "states"))

    def test_other_inputs(self):
        for plant, start, learning in learnings():
            for tick, put in enumerate(learning.puts):
                told = changed(learning, puts=put_at(learning.puts, tick, another(plant.field, put)))
                self.assertEqual(fault_of(plant, told), (tick, "ask"))
                self.assertEqual(fault_of(plant, changed(told, puts=lists(told.puts))), (tick, "ask"))
                # The least tick of several, ahead of the words for the end.
                told = changed(told, puts=told.puts[:tick + 1] + learning.puts[:1] * (len(told.puts) - tick - 1),
                               space=(), table=())
                self.assertEqual(fault_of(plant, told), (tick, "ask"))

    def test_inputs_behind_the_end(self):
        for plant, start, learning in learnings():
            many = len(learning.puts)
            told = changed(learning, puts=learning.puts + learning.puts[:1],
                           states=learning.states + learning.states[:1])
            self.assertEqual(fault_of(plant, told), (many, "ask"))

    def test_runs_that_end_early(self):
        for plant, start, learning in learnings():
            for many in range(len(learning.puts)):
                told = changed(learning, puts=learning.puts[:many], states=learning.states[:many + 1], space=())
                self.assertEqual(fault_of(plant, told), (many, "end"))

    def test_other_states(self):
        # A state that was altered lets a program ask something else, or not; so do later ones.
        words = set()
        for plant, start, learning in learnings()[::5]:
            for tick in range(len(learning.states)):
                told = changed(learning, states=put_at(learning.states, tick, another(plant.field, learning.states[tick])))
                due = own_fault(plant, told)
                self.assertEqual(fault_of(plant, told), due)
                words.add(due and due[1])
        self.assertEqual(words, {None, "ask", "end", "space", "table"})

    def test_space_and_table(self):
        for plant, start, learning in learnings()[::3]:
            field, many = plant.field, len(learning.puts)
            spaces = [learning.space + (zero_row(plant.size),), learning.space[:-1] + ((),)]
            spaces += [put_at(learning.space, k, another(field, row)) for k, row in enumerate(learning.space)]
            for space in spaces:
                self.assertEqual(fault_of(plant, changed(learning, space=space)), (many, "space"))
                self.assertEqual(fault_of(plant, changed(learning, space=lists(space), table=())), (many, "space"))
            tables = [learning.table[:-1], learning.table + learning.table[:1]]
            tables += [put_at(learning.table, k, another(field, row)) for k, row in enumerate(learning.table)]
            for table in tables:
                self.assertEqual(fault_of(plant, changed(learning, table=table)), (many, "table"))

    def test_errors_in_their_order(self):
        learning = learn(PARTED, wholes(1, 1, 1))
        for size in (0, 5, True, None, "2"):
            for inputs in (1, 0, None):
                self.assertEqual(raised(learning_fault, FRACTIONS, size, inputs, learning), (BadAsker, ("size",)))
        for inputs in (0, 4, True, None, "2"):
            self.assertEqual(raised(learning_fault, FRACTIONS, 3, inputs, learning), (BadAsker, ("inputs",)))
        self.assertIs(learning_fault(learning=learning, inputs=2, size=3, field=FRACTIONS), None)
        self.assertEqual(len(learning.puts), 5)
        self.assertEqual(len(learn(PARTED, wholes(1, 1, 0)).puts), 4)


def own_fault(plant, learning):
    """What 7.9 tells of a Learning with puts and states of the right numbers, by sums of the tests' own."""
    field, size, inputs = plant.field, plant.size, plant.inputs
    kept = []
    for tick, (x, u) in enumerate(zip(learning.states, learning.puts)):
        if first_new_of(field, inputs, [x + u for x, u, y in kept], x) != u:
            return tick, "ask"
        kept.append((x, u, learning.states[tick + 1]))
    if first_new_of(field, inputs, [x + u for x, u, y in kept], learning.states[-1]) is not None:
        return len(kept), "end"
    space, table = Asker(field, size, inputs, kept).known()
    if learning.space != space:
        return len(kept), "space"
    return None if learning.table == table else (len(kept), "table")


if __name__ == "__main__":
    unittest.main()
