import unittest
from functools import lru_cache
from random import Random

from classes import drawn_row, plants_of_classes, rank_of_b
from heard import own_closed, own_known_reply, unit_rows
from kinds import check_all_unlike, check_equal, check_result, check_unlike
from linear import hull_of, silent_on, solved, starts_of
from measured import SHAPES, some_plants
from sums import FRACTIONS, NO_ROWS, SMALL_FIELDS, all_plants, all_rows, all_tuples, dots, is_controllable, lies_in, lists
from sums import own_reply, packed_row, plant_of, raised, sum_in, varied_plants, wholes
from untaughthelm.errors import BadReacher, BadRow, NothingPut, Quarrel
from untaughthelm.fields import Field
from untaughthelm.reaching import Never, Reacher, never_fault, reach_ticks
from untaughthelm.rows import unit_table, zero_row
from untaughthelm.ways import inputs_to, ways

ZERO = (0, 1)
ONE = (1, 1)


def own_ticks(reacher):
    """L of 11.7 and 11.9."""
    return reacher.size if reacher.rank is None else max(0, reacher.deadline - reacher.tick)


def own_never(field, inputs, kept, state, goal, ticks):
    space = own_closed(field, inputs, kept, state)
    rows = []
    silent = []
    moved = [own_known_reply(field, kept, zero_row(len(state)), u) for u in unit_table(inputs)]
    for _ in range(ticks):
        silent += moved
        moved = [own_known_reply(field, kept, row, zero_row(inputs)) for row in moved]
        state = own_known_reply(field, kept, state, zero_row(inputs))
        missing = tuple(field.minus(*couple) for couple in zip(goal, state))
        rows.append(solved(field, silent + [missing], [ZERO] * len(silent) + [ONE]))
    return Never(space, tuple(rows))


def own_choice(reacher):
    """The first rule of 11.7 that applies."""
    field, inputs, kept, state = reacher.field, reacher.inputs, reacher.kept, reacher.state
    if state == reacher.goal:
        return "there", zero_row(inputs)
    ticks = own_ticks(reacher)
    entries = ways(field, kept, reacher.goal, ticks)
    for k in range(1, ticks + 1):
        if entries[k] is not None and entries[k].holds(state):
            return "way", inputs_to(field, inputs, kept, state, entries[k - 1]).point
    for u in (zero_row(inputs),) + unit_table(inputs):
        if own_known_reply(field, kept, state, u) is None:
            return "ask", u
    return "never", own_never(field, inputs, kept, state, reacher.goal, ticks)


def play(reacher, plant, ticks):
    """The Reachers of a run on the plant, up to this tick or to one that says never."""
    told = [reacher]
    while told[-1].tick < ticks and told[-1].choice[0] != "never":
        told.append(told[-1].hear(own_reply(plant, told[-1].state, told[-1].choice[1])))
    return told


def new_reacher(plant, rank, goal, start, **more):
    return Reacher(plant.field, plant.size, plant.inputs, rank, goal, start, **more)


@lru_cache(None)
def class_plays():
    """Runs on plants of each class, some ticks beyond the deadline."""
    told = []
    for field in SMALL_FIELDS:
        for place, (rank, plant) in enumerate(plants_of_classes(field.prime, Field)):
            source = Random(place)
            for goal in (zero_row(plant.size), drawn_row(field, source, plant.size)):
                start = drawn_row(field, source, plant.size)
                reacher = new_reacher(plant, rank, goal, start)
                told.append((plant, tuple(play(reacher, plant, reacher.deadline + 3))))
    return tuple(told)


@lru_cache(None)
def other_plays():
    """Runs of no class, and of classes that the plant is not of."""
    told = []
    for field in SMALL_FIELDS:
        for place, plant in enumerate(list(varied_plants(field)) + list(some_plants(field))):
            starts = starts_of(field, plant.size)
            last = 3 * plant.size + plant.inputs
            told.append((plant, tuple(play(new_reacher(plant, None, zero_row(plant.size), starts[1 + place % 3]), plant, last))))
            rank = 1 + place % min(plant.size, plant.inputs)
            goal = starts[place % 4]
            told.append((plant, tuple(play(new_reacher(plant, rank, goal, starts[(place + 1) % 4]), plant, last))))
    return tuple(told)


@lru_cache(None)
def nevers():
    return [row[-1] for _, row in other_plays() + class_plays() if row[-1].choice[0] == "never"]


class Ticks(unittest.TestCase):
    def test_reach_ticks(self):
        for size, inputs in SHAPES:
            for rank in range(1, min(size, inputs) + 1):
                self.assertEqual(reach_ticks(size, inputs, rank), 2 * size + inputs - rank + 1)
        self.assertEqual(reach_ticks(rank=2, inputs=3, size=4), 10)


class Making(unittest.TestCase):
    def test_attributes(self):
        for field in SMALL_FIELDS:
            for size, inputs in SHAPES:
                for rank in (None, *range(1, min(size, inputs) + 1)):
                    for start in starts_of(field, size):
                        goal = zero_row(size) if rank is None else starts_of(field, size)[2]
                        reacher = Reacher(field, size, inputs, rank, list(goal), list(start))
                        self.assertEqual((reacher.field, reacher.size, reacher.inputs, reacher.rank),
                                         (field, size, inputs, rank))
                        self.assertEqual((reacher.goal, reacher.start, reacher.state), (goal, start, start))
                        self.assertEqual(reacher.deadline, None if rank is None else 2 * size + inputs - rank + 1)
                        self.assertEqual((reacher.tick, reacher.kept), (0, ()))
                        self.assertEqual(reacher.choice, own_choice(reacher))
                        self.assertTrue(all_tuples((reacher.goal, reacher.start, reacher.state, reacher.choice[1])))
                        self.assertFalse(hasattr(reacher, "first"))
                        check_equal(self, reacher, Reacher(field, size, inputs, rank, goal, start, first=None))

    def test_words_in_their_order(self):
        def check(due, size=2, inputs=2, rank=1, goal=wholes(0, 0), start=wholes(1, 0), first=None):
            self.assertEqual(raised(Reacher, FRACTIONS, size, inputs, rank, goal, start, first=first), due)

        for size in (0, 5, -1, True, False, None, "2", (2, 1), [2]):
            check((BadReacher, ("size",)), size=size)
            check((BadReacher, ("size",)), size, None, 9, None, None, 3)
        for inputs in (0, 4, -1, True, False, None, "1", (1, 1), [1]):
            check((BadReacher, ("inputs",)), inputs=inputs)
            check((BadReacher, ("inputs",)), 2, inputs, 9, None, None, 3)
        for rank in (0, 3, -1, True, False, "1", (1, 1), [1]):
            check((BadReacher, ("rank",)), rank=rank)
            check((BadReacher, ("rank",)), 2, 2, rank, None, None, 3)
        for size, inputs in SHAPES:
            self.assertEqual(raised(Reacher, FRACTIONS, size, inputs, min(size, inputs) + 1, None, None), (BadReacher, ("rank",)))
        for row in NO_ROWS:
            check((BadRow, ("goal",)), goal=row)
            check((BadRow, ("goal",)), 2, 2, None, row, None, 3)
            check((BadRow, ("start",)), start=row)
            check((BadRow, ("start",)), start=row, first=3)
        for goal in (wholes(1, 0), wholes(0, 1)):
            check((BadReacher, ("goal",)), rank=None, goal=goal)
            check((BadReacher, ("goal",)), 2, 2, None, goal, None, 3)
        self.assertIs(raised(Reacher, rank=None, goal=wholes(0, 0), start=wholes(0, 1), inputs=2, size=2, field=FRACTIONS), None)

    def test_words_of_first(self):
        def check(due, first, start=wholes(1, 0)):
            self.assertEqual(raised(Reacher, FRACTIONS, 2, 2, 1, wholes(0, 0), start, first=first), due)

        good = wholes(1, 2)
        for first in (3, "ab", (), [], (good,), (good,) * 3, {0: good, 1: good}, iter([good, good]), {good: 1, ONE: 2}, False):
            check((BadReacher, ("first",)), first)
        for row in NO_ROWS:
            for y in (good, None, row):
                check((BadRow, ("u",)), (row, y))
            check((BadRow, ("y",)), [good, row])
            check((BadRow, ("y",)), (wholes(0, 0), row), wholes(0, 0))
        check((Quarrel, (wholes(1),)), (wholes(0, 0), wholes(0, 1)), wholes(0, 0))
        check(None, (wholes(0, 0), wholes(0, 0)), wholes(0, 0))
        check(None, (wholes(0, 0), wholes(0, 1)), wholes(0, 1))
        check(None, [[ZERO, ONE], [ZERO, ONE]], wholes(0, 0))

    def test_first_must_be_named(self):
        with self.assertRaises(TypeError):
            Reacher(FRACTIONS, 1, 1, 1, wholes(0), wholes(1), None)

    def test_equality(self):
        first = Reacher(FRACTIONS, 1, 1, 1, wholes(0), wholes(1))
        things = [first, first.hear(wholes(2)), first.hear(wholes(3)), first.hear(wholes(2)).hear(wholes(5)),
                  Reacher(Field(5), 1, 1, 1, wholes(0), wholes(1)), Reacher(FRACTIONS, 2, 1, 1, wholes(0, 0), wholes(1, 0)),
                  Reacher(FRACTIONS, 1, 2, 1, wholes(0), wholes(1)), Reacher(FRACTIONS, 1, 1, None, wholes(0), wholes(1)),
                  Reacher(FRACTIONS, 1, 1, 1, wholes(3), wholes(1)), Reacher(FRACTIONS, 1, 1, 1, wholes(0), wholes(2)),
                  Reacher(FRACTIONS, 1, 1, 1, wholes(0), wholes(1), first=(wholes(4), wholes(2)))]
        check_all_unlike(self, things)
        check_equal(self, first.hear([(2, 1)]), things[1])
        # The tick counts even if all else is the same, and so do the rows at one state and tick.
        still = Reacher(FRACTIONS, 1, 1, 1, wholes(0), wholes(0))
        check_unlike(self, still, still.hear(wholes(0)))
        ways_there = [Reacher(FRACTIONS, 1, 1, 1, wholes(5), wholes(1)).hear(wholes(number)).hear(wholes(5)) for number in (2, 3)]
        self.assertEqual([reacher.choice for reacher in ways_there], [("there", wholes(0))] * 2)
        check_unlike(self, *ways_there)

    def test_what_is_passed_in_is_not_kept(self):
        goal, start, first = [(0, 1)], [(1, 1)], [[(0, 1)], [(2, 1)]]
        reacher = Reacher(FRACTIONS, 1, 1, 1, goal, start, first=first)
        y = [(5, 1)]
        heard = reacher.hear(y)
        self.assertEqual((goal, start, first, y), ([(0, 1)], [(1, 1)], [[(0, 1)], [(2, 1)]], [(5, 1)]))
        goal[0] = start[0] = first[0][0] = first[1][0] = y[0] = (9, 1)
        self.assertEqual((reacher.goal, reacher.start, reacher.state), (wholes(0), wholes(1), wholes(2)))
        self.assertEqual(heard.kept, ((wholes(1), wholes(0), wholes(2)), (wholes(2), wholes(1), wholes(5))))
        self.assertEqual((heard.state, reacher.tick, heard.tick), (wholes(5), 1, 2))


class Firsts(unittest.TestCase):
    def test_it_equals_what_hear_returns(self):
        for field in SMALL_FIELDS:
            for plant in some_plants(field):
                for start in starts_of(field, plant.size):
                    for rank in (None, 1):
                        reacher = new_reacher(plant, rank, zero_row(plant.size), start)
                        if reacher.choice[0] == "ask":
                            u = reacher.choice[1]
                            y = own_reply(plant, start, u)
                            made = new_reacher(plant, rank, zero_row(plant.size), start, first=[list(u), list(y)])
                            check_equal(self, made, reacher.hear(y))

    def test_other_inputs(self):
        for field in SMALL_FIELDS:
            for rank, plant in plants_of_classes(field.prime, Field):
                source = Random(rank)
                start, goal = drawn_row(field, source, plant.size), drawn_row(field, source, plant.size)
                u = packed_row(field, [3, 1, -2][:plant.inputs])
                y = own_reply(plant, start, u)
                made = new_reacher(plant, rank, goal, start, first=(u, y))
                self.assertEqual((made.tick, made.state, made.start, made.goal), (1, y, start, goal))
                new = any(top for top, _ in start + u)
                self.assertEqual(made.kept, ((start, u, y),) if new else ())
                self.assertTrue(all_tuples((made.kept, made.state)))
                self.assertEqual(made.choice, own_choice(made))
                if new:
                    row = play(made, plant, made.deadline)
                    self.assertIn(goal, [reacher.state for reacher in row])

    def test_a_first_that_tells_nothing(self):
        made = Reacher(FRACTIONS, 2, 1, 1, wholes(1, 0), wholes(0, 0), first=(wholes(0), wholes(0, 0)))
        self.assertEqual((made.tick, made.kept, made.state), (1, (), wholes(0, 0)))
        self.assertEqual(made.choice, ("ask", wholes(1)))


class Choices(unittest.TestCase):
    def test_by_the_rules(self):
        words = {}
        for plant, row in class_plays() + other_plays()[::2]:
            for reacher in row:
                due = own_choice(reacher)
                self.assertEqual(reacher.choice, due)
                self.assertIsInstance(reacher.choice, tuple)
                if due[0] != "never":
                    self.assertTrue(all_tuples(reacher.choice[1]))
                else:
                    self.assertTrue(all_tuples((reacher.choice[1].space, reacher.choice[1].rows)))
                words[due[0]] = words.get(due[0], 0) + 1
        self.assertEqual(set(words), {"there", "way", "ask", "never"})
        self.assertGreater(min(words.values()), 50, words)

    def test_a_way_that_is_begun_is_followed_to_its_end(self):
        for plant, row in class_plays():
            words = [reacher.choice[0] for reacher in row]
            for before, word in zip(words, words[1:]):
                if before == "way":
                    self.assertIn(word, ("way", "there"))

    def test_by_hand(self):
        reacher = Reacher(FRACTIONS, 1, 1, 1, wholes(0), wholes(1))
        self.assertEqual((reacher.deadline, reacher.choice), (3, ("ask", wholes(0))))
        reacher = reacher.hear(wholes(2))
        self.assertEqual((reacher.state, reacher.kept), (wholes(2), ((wholes(1), wholes(0), wholes(2)),)))
        self.assertEqual(reacher.choice, ("ask", wholes(1)))
        reacher = reacher.hear(y=wholes(5))
        self.assertEqual(reacher.choice, ("way", wholes(-10)))
        reacher = reacher.hear(wholes(0))
        self.assertEqual((reacher.tick, reacher.choice), (3, ("there", wholes(0))))

    def test_behind_the_deadline(self):
        # At the goal 3 the state goes on to 6, and no way is in time any more.
        reacher = Reacher(FRACTIONS, 1, 1, 1, wholes(3), wholes(1)).hear(wholes(2)).hear(wholes(5)).hear(wholes(3))
        self.assertEqual((reacher.tick, reacher.choice), (3, ("there", wholes(0))))
        reacher = reacher.hear(wholes(6))
        self.assertEqual((reacher.tick, reacher.choice), (4, ("never", Never((wholes(1),), ()))))
        self.assertIs(never_fault(FRACTIONS, 1, reacher.kept, wholes(6), wholes(3), 0, reacher.choice[1]), None)


class Hearing(unittest.TestCase):
    def test_ticks_states_and_rows(self):
        for plant, row in class_plays() + other_plays():
            kept = []
            for before, reacher in zip(row, row[1:]):
                self.assertEqual(reacher.tick, before.tick + 1)
                u = before.choice[1]
                y = own_reply(plant, before.state, u)
                self.assertEqual(reacher.state, y)
                z = before.state + u
                if any(top for top, _ in z) and not lies_in(plant.field, [x + u for x, u, y in kept], z):
                    kept.append((before.state, u, y))
                self.assertEqual(reacher.kept, tuple(kept))
                self.assertEqual((reacher.goal, reacher.start, reacher.rank, reacher.deadline),
                                 (before.goal, before.start, before.rank, before.deadline))
                self.assertTrue(all_tuples((reacher.kept, reacher.state)))

    def test_rows_are_kept_at_the_goal_and_behind_the_deadline(self):
        at_goal = behind = 0
        for plant, row in class_plays() + other_plays():
            for before, reacher in zip(row, row[1:]):
                if len(reacher.kept) > len(before.kept):
                    at_goal += before.choice[0] == "there"
                    behind += before.rank is not None and before.tick >= before.deadline
        self.assertGreater(min(at_goal, behind), 20)
        # Of an unknown plant that stood at its goal all the time.
        reacher = Reacher(FRACTIONS, 1, 1, 1, wholes(1), wholes(1))
        for tick in range(4):
            self.assertEqual(reacher.choice, ("there", wholes(0)))
            reacher = reacher.hear(wholes(1))
        self.assertEqual(len(reacher.kept), 1)
        still = Reacher(FRACTIONS, 2, 1, 1, wholes(0, 0), wholes(0, 0))
        for tick in range(9):
            still = still.hear(wholes(0, 0))
        self.assertEqual((still.tick, still.kept, still.deadline), (9, (), 5))
        pushed = Reacher(FRACTIONS, 1, 2, 1, wholes(1), wholes(1))
        for tick in range(5):
            pushed = pushed.hear(wholes(1))
        # Its goal is 1 and the plant keeps it there, till it is led by another one.
        self.assertEqual(raised(pushed.hear, wholes(2)), (Quarrel, (wholes(-1, 1),)))

    def test_errors_in_their_order(self):
        for field in SMALL_FIELDS:
            never = [reacher for reacher in nevers() if reacher.field == field][0]
            for y in (zero_row(never.size), None, 3):
                self.assertEqual(raised(never.hear, y), (NothingPut, ()))
        reachers = [Reacher(FRACTIONS, 2, 2, 1, wholes(0, 0), start) for start in (wholes(0, 0), wholes(1, 2))]
        for reacher in reachers + [reachers[1].hear(wholes(1, 2))]:
            for row in NO_ROWS:
                self.assertEqual(raised(reacher.hear, row), (BadRow, ("y",)))
        self.assertEqual(raised(reachers[0].hear, wholes(0, 1)), (Quarrel, (wholes(1),)))

    def test_quarrels(self):
        many = 0
        for plant, row in class_plays():
            field = plant.field
            for reacher in row[:-1]:
                u = reacher.choice[1]
                known = own_known_reply(field, reacher.kept, reacher.state, u)
                if known is None:
                    continue
                zs = [x + u for x, u, y in reacher.kept]
                weights = solved(field, list(zip(*zs)), reacher.state + u) if zs else ()
                due = tuple(field.negative(number) for number in weights) + (ONE,)
                y = (field.plus(known[0], ONE),) + known[1:]
                self.assertEqual(raised(reacher.hear, list(y)), (Quarrel, (due,)))
                self.assertIs(raised(reacher.hear, known), None)
                many += 1
        self.assertGreater(many, 300)


class Facts(unittest.TestCase):
    def test_the_goal_by_its_deadline(self):
        many = 0
        for field in SMALL_FIELDS:
            for place, (rank, plant) in enumerate(plants_of_classes(field.prime, Field)):
                source = Random(place + 50)
                self.assertGreaterEqual(rank_of_b(plant), rank)
                for turn in range(3):
                    start, goal = drawn_row(field, source, plant.size), drawn_row(field, source, plant.size)
                    goal = (goal, zero_row(plant.size), start)[turn]
                    last = 2 * plant.size + plant.inputs - rank + 1
                    row = play(new_reacher(plant, rank, goal, start), plant, last)
                    self.assertIn(goal, [reacher.state for reacher in row])
                    many += 1
        self.assertGreater(many, 300)

    def test_all_small_plants_starts_and_goals(self):
        for prime, size, inputs, step in ((2, 1, 1, 1), (3, 1, 1, 1), (2, 1, 2, 1), (2, 2, 1, 1), (3, 2, 1, 40), (2, 2, 2, 9)):
            plants = [plant for plant in all_plants(prime, size, inputs) if is_controllable(plant)]
            for place, plant in enumerate(plants[::step]):
                for rank in range(1, rank_of_b(plant) + 1):
                    for start in all_rows(prime, size)[place % 2::2]:
                        for goal in all_rows(prime, size):
                            reacher = new_reacher(plant, rank, goal, start)
                            row = play(reacher, plant, reacher.deadline)
                            self.assertIn(goal, [told.state for told in row])

    def test_rest_of_no_class(self):
        words = {True: 0, False: 0}
        for plant, row in other_plays()[::2]:
            field, size, inputs, start = plant.field, plant.size, plant.inputs, row[0].start
            self.assertIs(row[0].rank, None)
            drifted, reached = start, []
            columns = [own_reply(plant, zero_row(size), u) for u in unit_table(inputs)]
            for _ in range(size):
                reached += columns
                columns = [own_reply(plant, column, zero_row(inputs)) for column in columns]
                drifted = own_reply(plant, drifted, zero_row(inputs))
            due = lies_in(field, reached, drifted)
            last = len(hull_of(plant, start)) + inputs
            if due:
                self.assertIn(zero_row(size), [reacher.state for reacher in row[:last + size + 1]])
                self.assertNotIn("never", [reacher.choice[0] for reacher in row])
            else:
                self.assertEqual(row[-1].choice[0], "never")
                self.assertLessEqual(row[-1].tick, last)
            words[due] += 1
        self.assertGreater(min(words.values()), 30, words)

    def test_all_small_plants_of_no_class(self):
        for prime, size, inputs, step in ((2, 1, 1, 1), (3, 1, 1, 1), (2, 2, 1, 1), (3, 2, 1, 25), (2, 2, 2, 7)):
            for plant in all_plants(prime, size, inputs)[::step]:
                states = all_rows(prime, size)
                inside = {zero_row(size)}
                for _ in range(prime ** size):
                    inside |= {x for x in states for u in all_rows(prime, inputs) if own_reply(plant, x, u) in inside}
                for start in states:
                    last = len(hull_of(plant, start)) + inputs
                    row = play(new_reacher(plant, None, zero_row(size), start), plant, last + size)
                    if start in inside:
                        self.assertIn(zero_row(size), [reacher.state for reacher in row])
                    else:
                        self.assertEqual(row[-1].choice[0], "never")
                        self.assertLessEqual(row[-1].tick, last)


def judged(reacher, never, kept=None, state=None, ticks=None):
    return never_fault(reacher.field, reacher.inputs, reacher.kept if kept is None else kept,
                       reacher.state if state is None else state, reacher.goal,
                       own_ticks(reacher) if ticks is None else ticks, never)


class Certificates(unittest.TestCase):
    def test_what_a_reacher_tells_is_right(self):
        many = 0
        for reacher in nevers():
            never = reacher.choice[1]
            self.assertIsInstance(never, Never)
            self.assertEqual(len(never.rows), own_ticks(reacher))
            self.assertIs(judged(reacher, never), None)
            told, kept, state = Never(lists(never.space), lists(never.rows)), lists(reacher.kept), list(reacher.state)
            self.assertIs(judged(reacher, told, kept, state), None)
            self.assertEqual((told.space, told.rows, kept, state),
                             (lists(never.space), lists(never.rows), lists(reacher.kept), list(reacher.state)))
            many += len(never.rows) > 0
        self.assertGreater(many, 60)

    def test_it_keeps_what_it_is_given(self):
        check_result(self, Never, ("space", "rows"))

    def test_space(self):
        for reacher in nevers():
            never = reacher.choice[1]
            for row in unit_table(reacher.size):
                if not lies_in(reacher.field, list(never.space) + [zero_row(reacher.size)], row):
                    self.assertEqual(judged(reacher, never, state=row), "space")
                    self.assertEqual(judged(reacher, Never(never.space, ()), kept=(), state=row), "space")
            if reacher.state != zero_row(reacher.size):
                self.assertEqual(judged(reacher, Never((), never.rows)), "space")

    def test_known(self):
        open_ones = 0
        for reacher in nevers():
            field, size, inputs, never = reacher.field, reacher.size, reacher.inputs, reacher.choice[1]
            for place in range(len(reacher.kept)):
                kept = reacher.kept[:place] + reacher.kept[place + 1:]
                asked = [(x, zero_row(inputs)) for x in never.space] + [(zero_row(size), u) for u in unit_table(inputs)]
                if None in [own_known_reply(field, kept, x, u) for x, u in asked]:
                    self.assertEqual(judged(reacher, never, kept=kept), "known")
                    self.assertEqual(judged(reacher, Never(never.space, ()), kept=kept, ticks=5), "known")
                    open_ones += 1
                else:
                    self.assertIs(judged(reacher, never, kept=kept), None)
        self.assertGreater(open_ones, 100)
        # A unit row whose reply is not known.
        plant = plant_of(FRACTIONS, [[1, 0], [0, 2]], [[1], [0]])
        kept = [unit_rows(plant)[place] for place in (1, 2)]
        told = Never(unit_table(2), [wholes(0, -1)])
        self.assertEqual(never_fault(FRACTIONS, 1, kept, wholes(0, 1), wholes(0, 0), 1, told), "known")
        self.assertEqual(never_fault(FRACTIONS, 1, kept[:1], wholes(0, 1), wholes(0, 0), 1, Never([wholes(0, 1)], [])), "known")

    def test_closed(self):
        plant = plant_of(FRACTIONS, [[0, 1, 0], [0, 0, 0], [0, 0, 1]], [[0], [1], [0]])
        kept, state = unit_rows(plant), wholes(0, 0, 1)
        rows = [wholes(0, 0, -1)]
        for space, due in ((wholes(0, 0, 1),), "closed"), ((wholes(0, 1, 0), wholes(0, 0, 1)), "closed"), (unit_table(3), None):
            told = Never(space, rows)
            self.assertEqual(never_fault(FRACTIONS, 1, kept, state, wholes(0, 0, 0), 1, told), due)
            if due:
                self.assertEqual(never_fault(FRACTIONS, 1, kept, state, wholes(0, 0, 0), 2, Never(space, ())), due)

    def test_rows(self):
        for reacher in nevers():
            never = reacher.choice[1]
            for rows in (never.rows + ((ZERO,) * reacher.size,), never.rows[1:], never.rows[:-1]):
                if len(rows) != len(never.rows):
                    self.assertEqual(judged(reacher, Never(never.space, rows)), "rows")
            self.assertEqual(judged(reacher, never, ticks=len(never.rows) + 1), "rows")

    def test_row(self):
        for reacher in nevers()[::3]:
            field, never = reacher.field, reacher.choice[1]
            for k, row in enumerate(never.rows):
                for number in ((0, 1), (2, 1), (-1, 1)):
                    if field.holds(number):
                        other = tuple(field.times(number, part) for part in row)
                        told = Never(never.space, never.rows[:k] + (other,) + never.rows[k + 1:])
                        due = None if other == row else "row"
                        self.assertEqual(judged(reacher, told), due)
            if len(never.rows) > 1 and never.rows[0] != never.rows[1]:
                told = Never(never.space, never.rows[::-1])
                self.assertEqual(judged(reacher, told), own_row_fault(reacher, told.rows))

    def test_the_inputs_of_all_ticks_count(self):
        # b is (0, 1) and A b is (1, 0): a row for two ticks is 0 on both.
        plant = plant_of(FRACTIONS, [[0, 1, 0], [0, 0, 0], [0, 0, 2]], [[0], [1], [0]])
        kept, state, goal = unit_rows(plant), wholes(0, 0, 1), wholes(0, 0, 0)
        rows = [wholes(5, 0, 0), wholes(0, 0, 0), wholes(0, 0, 0)]
        good = [((0, 1), (0, 1), (-1, 2 ** k)) for k in (1, 2, 3)]
        for k in range(3):
            for number in (1, -3):
                row = ((number, 1),) + good[k][1:]
                told = Never(unit_table(3), good[:k] + [row] + good[k + 1:])
                self.assertEqual(never_fault(FRACTIONS, 1, kept, state, goal, 3, told), None if k == 0 else "row")
        self.assertEqual(never_fault(FRACTIONS, 1, kept, state, goal, 3, Never(unit_table(3), rows)), "row")

    def test_other_right_ones(self):
        for reacher in nevers():
            field, never = reacher.field, reacher.choice[1]
            # Dependent rows span the same space.
            space = never.space + never.space[:1] + (zero_row(reacher.size),)
            self.assertIs(judged(reacher, Never(space, never.rows)), None)
            # A row that is 0 on the whole space and the goal may be added to each row.
            silent = silent_on(field, reacher.size, list(never.space) + [reacher.goal])
            for row in silent:
                rows = [sum_in(field, wholes(1, 1), (told, row), reacher.size) for told in never.rows]
                self.assertIs(judged(reacher, Never(never.space, rows)), None)
        # The state 0 lies in the space of 0 alone.
        kept = [(wholes(0, 0), wholes(1), wholes(0, 0))]
        self.assertIs(never_fault(FRACTIONS, 1, kept, wholes(0, 0), wholes(0, 2), 2, Never((), [((0, 1), (1, 2))] * 2)), None)
        self.assertEqual(never_fault(never=Never((), ()), ticks=0, goal=wholes(1), state=wholes(0), inputs=1,
                                     kept=[(wholes(0), wholes(1), wholes(3))], field=FRACTIONS), "closed")

    def test_sixty_ticks(self):
        plant = plant_of(FRACTIONS, [[2]], [[0]])
        kept = unit_rows(plant)
        rows = [((-1, 2 ** k),) for k in range(1, 61)]
        told = Never((wholes(1),), rows)
        self.assertIs(never_fault(FRACTIONS, 1, kept, wholes(1), wholes(0), 60, told), None)
        told = Never((wholes(1),), rows[:-1] + [wholes(1)])
        self.assertEqual(never_fault(FRACTIONS, 1, kept, wholes(1), wholes(0), 60, told), "row")


def own_row_fault(reacher, rows):
    """Whether some row fails an equation of 11.9, each written out."""
    field, kept, inputs = reacher.field, reacher.kept, reacher.inputs
    drifted = reacher.state
    moved = [own_known_reply(field, kept, zero_row(reacher.size), u) for u in unit_table(inputs)]
    silent = []
    for row in rows:
        silent += moved
        moved = [own_known_reply(field, kept, column, zero_row(inputs)) for column in moved]
        drifted = own_known_reply(field, kept, drifted, zero_row(inputs))
        missing = tuple(field.minus(*couple) for couple in zip(reacher.goal, drifted))
        if any(dots(field, row, column) != ZERO for column in silent) or dots(field, row, missing) != ONE:
            return "row"
    return None


if __name__ == "__main__":
    unittest.main()
