import unittest
from functools import lru_cache
from random import Random

from classes import drawn_row, rank_of_b
from kinds import check_all_unlike, check_equal, check_unlike
from linear import weights_in
from measured import SHAPES
from sums import FRACTIONS, NO_ROWS, all_rows, all_tuples, is_controllable, lies_in, lists, own_reply, own_run, packed
from sums import packed_row, plant_of, raised, sum_in, wholes
from untaughthelm.errors import BadFoe, BadRow, TooSmall
from untaughthelm.fields import Field
from untaughthelm.plants import Plant
from untaughthelm.reaches import puts_to
from untaughthelm.reachfoes import ReachFoe
from untaughthelm.reaching import Reacher, reach_ticks
from untaughthelm.rows import unit_row, unit_table, zero_row

ZERO = (0, 1)
ONE = (1, 1)
CLASSES = tuple((size, inputs, rank) for size, inputs in SHAPES for rank in range(1, min(size, inputs) + 1))
FOE_FIELDS = (FRACTIONS, Field(3), Field(5), Field(7), Field(97))


def starts_and_goals(field, size):
    source = Random(size)
    starts = [unit_row(size, size - 1), packed_row(field, [2, -1, 3, 1][:size]), (ONE,) * size]
    for start in starts:
        yield start, zero_row(size)
        if field == FRACTIONS:
            yield start, drawn_row(field, source, size)
            # What the drift, or the last direction, would come to with the first numbers.
            yield start, tuple(field.times((2 ** 2, 1), number) for number in start)
            yield start, tuple(field.plus(field.times((4, 1), number), ONE) for number in start)


@lru_cache(None)
def foes():
    return tuple(ReachFoe(field, size, inputs, rank, start, goal)
                 for field in FOE_FIELDS
                 for size, inputs, rank in CLASSES if field.prime is None or field.prime > size
                 for start, goal in starts_and_goals(field, size) if start != goal)


def zeros(foe):
    return zero_row(foe.inputs)


def units(foe):
    return unit_row(foe.inputs, foe.tick % foe.inputs)


def units_behind_zeros(foe):
    """Inputs that ask for the unit directions themselves, from the first or from the last one on."""
    turn = foe.tick - foe.size
    return zeros(foe) if turn < 0 else unit_row(foe.inputs, (turn if foe.size % 2 else -1 - turn) % foe.inputs)


def drawn(foe):
    return drawn_row(foe.field, Random(foe.tick), foe.inputs)


def by_states(foe):
    """Inputs that are forced by the states: multiples of their numbers."""
    source = Random(foe.size)
    told = foe.state + foe.states[foe.tick // 2]
    return tuple(sum_in(foe.field, drawn_row(foe.field, source, len(told)), [(n,) for n in told], 1)[0]
                 for _ in range(foe.inputs))


def sharp(foe):
    """The first input of the shortest way to the goal of the plant as it stands."""
    plant = foe.plant()
    for ticks in range(1, foe.size + 1):
        puts = puts_to(plant, foe.state, foe.goal, ticks)
        if puts is not None:
            return puts[0]
    return zeros(foe)


PROGRAMS = (zeros, units, units_behind_zeros, drawn, by_states, sharp)


def play(foe, program, ticks):
    told = [foe]
    for _ in range(ticks):
        told.append(told[-1].put(program(told[-1])))
    return told


@lru_cache(None)
def plays():
    """Runs of all programs against foes, some ticks beyond the deadline."""
    told = []
    for place, foe in enumerate(foes()):
        for at, program in enumerate(PROGRAMS):
            if (place + at) % 6 == 0 or foe.field == FRACTIONS and program is sharp and place % 4 == 0:
                told.append(tuple(play(foe, program, foe.deadline + 2)))
    return tuple(told)


def tail_of(foe, state):
    return weights_in(foe.field, foe.basis, state)[foe.rank - 1:]


def drifted(foe, state):
    parts = weights_in(foe.field, foe.basis, state)
    return sum_in(foe.field, [foe.field.times(*couple) for couple in zip(foe.eigenvalues, parts)], foe.basis, foe.size)


def own_eigenvalues(foe):
    field, size = foe.field, foe.size
    if field.prime is not None:
        return tuple((k + 1, 1) for k in range(size))
    goal = weights_in(field, foe.basis, foe.goal)[foe.rank - 1:]
    a = 2
    while True:
        tails = [tuple(((a + k) ** t, 1) for k in range(foe.rank - 1, size))
                 for t in range(1, 2 * size + foe.inputs - foe.rank + 1)]
        if goal not in tails:
            return tuple((a + k, 1) for k in range(size))
        a += 1


def is_bad(foe, state, c):
    """Whether c is bad by 12.6, where the last direction is asked at this state."""
    field, rank, size = foe.field, foe.rank, foe.size
    eigenvalues = foe.eigenvalues[rank - 1:]

    def moved(tail, times):
        for _ in range(times):
            tail = tuple(field.times(*couple) for couple in zip(eigenvalues, tail))
        return tail

    y, w, g = tail_of(foe, state), (ONE,) * (size - rank + 1), tail_of(foe, foe.goal)
    for k in range(size - rank + 1):
        rows = [moved(w, at) for at in range(k)]
        row = sum_in(field, (ONE, c, packed(field, -1)), (moved(y, k + 1), moved(w, k), g), len(w))
        if weights_in(field, rows, row) is not None:
            return True
    return False


def own_image(foe, place, c):
    if place < foe.inputs - foe.rank:
        return zero_row(foe.size)
    if place < foe.inputs - 1:
        return foe.basis[place - (foe.inputs - foe.rank)]
    return sum_in(foe.field, [c] * (foe.size - foe.rank + 1), foe.basis[foe.rank - 1:], foe.size)


def own_replay(foe):
    """States, asked directions, images and scale of each tick, by the rule of 12.5."""
    field, size, inputs = foe.field, foe.size, foe.inputs
    states, asked, images, scale = [foe.start], [], [], None
    yield tuple(states), (), (), None
    for tick, u in enumerate(foe.puts):
        x = states[-1]
        reply = drifted(foe, x)
        if tick >= size:
            factors = weights_in(field, states[:size], x)
            law = sum_in(field, factors, foe.puts[:size], inputs)
            v = tuple(field.minus(*couple) for couple in zip(u, law))
            weights = weights_in(field, asked, v)
            if weights is None:
                if len(asked) == inputs - 1:
                    scale = next(packed(field, c) for c in range(1, 99) if not is_bad(foe, x, packed(field, c)))
                images.append(own_image(foe, len(asked), scale))
                asked.append(v)
                weights = zero_row(len(asked) - 1) + (ONE,)
            moved = sum_in(field, weights, images, size)
            reply = tuple(field.plus(*couple) for couple in zip(reply, moved))
        states.append(reply)
        yield tuple(states), tuple(asked), tuple(images), scale


class Making(unittest.TestCase):
    def test_attributes(self):
        for foe in foes():
            field, size, inputs, rank = foe.field, foe.size, foe.inputs, foe.rank
            made = ReachFoe(field, size, inputs, rank, list(foe.start), list(foe.goal))
            check_equal(self, made, foe)
            self.assertEqual((made.start, made.goal), (foe.start, foe.goal))
            self.assertEqual(made.deadline, 2 * size + inputs - rank + 1)
            self.assertEqual(made.deadline, reach_ticks(size, inputs, rank))
            self.assertEqual((made.tick, made.state, made.states, made.puts), (0, foe.start, (foe.start,), ()))
            self.assertEqual((made.asked, made.images, made.scale), ((), (), None))
            self.assertTrue(all_tuples((made.start, made.goal, made.states, made.basis, made.eigenvalues)))
        made = ReachFoe(goal=wholes(0), start=wholes(1), rank=1, inputs=2, size=1, field=Field(5))
        self.assertEqual((made.field, made.size, made.inputs, made.rank), (Field(5), 1, 2, 1))

    def test_basis(self):
        for foe in foes():
            lead = [number != ZERO for number in foe.start].index(True)
            for place, row in enumerate(foe.basis):
                if place != lead:
                    self.assertEqual(row, unit_row(foe.size, place))
            self.assertEqual(sum_in(foe.field, (ONE,) * foe.size, foe.basis, foe.size), foe.start)
        foe = ReachFoe(FRACTIONS, 3, 1, 1, wholes(0, 5, 7), wholes(0, 0, 0))
        self.assertEqual(foe.basis, (wholes(1, 0, 0), wholes(-1, 5, 6), wholes(0, 0, 1)))

    def test_eigenvalues(self):
        leasts = set()
        for foe in foes():
            self.assertEqual(foe.eigenvalues, own_eigenvalues(foe))
            leasts.add((foe.field.prime, foe.eigenvalues[0]))
        self.assertEqual(leasts, {(None, (2, 1)), (None, (3, 1)), (3, ONE), (5, ONE), (7, ONE), (97, ONE)})
        # A goal that the drift of each tick before the deadline comes to, and of the one at it.
        for goal, least in ((2, 3), (4, 3), (8, 2), (3, 2), (9, 2), (-2, 2)):
            foe = ReachFoe(FRACTIONS, 1, 1, 1, wholes(1), wholes(goal))
            self.assertEqual(foe.eigenvalues, wholes(least))
        # The tail alone counts: of rank 2 it is the last part.
        foe = ReachFoe(FRACTIONS, 2, 2, 2, wholes(1, 1), wholes(50, 3))
        self.assertEqual((foe.basis, foe.eigenvalues), ((wholes(1, 0), wholes(0, 1)), wholes(3, 4)))

    def test_words_in_their_order(self):
        def check(due, size=2, inputs=2, rank=1, start=wholes(1, 0), goal=wholes(0, 0), field=FRACTIONS):
            self.assertEqual(raised(ReachFoe, field, size, inputs, rank, start, goal), due)

        for field in (FRACTIONS, Field(2)):
            for size in (0, 5, -1, True, False, None, "2", (2, 1), [2]):
                check((BadFoe, ("size",)), size=size, field=field)
                check((BadFoe, ("size",)), size, 9, 9, None, None, field)
            for inputs in (0, 4, -1, True, False, None, "1", (1, 1), [1]):
                check((BadFoe, ("inputs",)), inputs=inputs, field=field)
                check((BadFoe, ("inputs",)), 2, inputs, 9, None, None, field)
            for rank in (0, 3, -1, True, False, None, "1", (1, 1), [1]):
                check((BadFoe, ("rank",)), rank=rank, field=field)
                check((BadFoe, ("rank",)), 2, 2, rank, None, None, field)
        for size, inputs in SHAPES:
            self.assertEqual(raised(ReachFoe, FRACTIONS, size, inputs, min(size, inputs) + 1, None, None), (BadFoe, ("rank",)))
        for row in NO_ROWS:
            check((BadRow, ("start",)), start=row)
            check((BadRow, ("start",)), 2, 2, 1, row, None)
            check((BadRow, ("goal",)), goal=row)
        for goal in (wholes(0, 0), wholes(1, 0), None):
            check((BadFoe, ("start",)), start=wholes(0, 0), goal=goal)
        check((BadFoe, ("goal",)), start=wholes(1, 2), goal=[(1, 1), (2, 1)])
        check((BadFoe, ("goal",)), start=wholes(1, 2), goal=wholes(1, 2), field=Field(5))
        check(None, start=wholes(1, 2), goal=wholes(1, 3))

    def test_primes_that_are_too_small(self):
        for prime in (2, 3, 5, 7, 11):
            for size in (1, 2, 3, 4):
                due = (TooSmall, (prime,)) if prime < 3 or prime < size + 1 else None
                foe = raised(ReachFoe, Field(prime), size, 1, 1, unit_row(size, 0), zero_row(size))
                self.assertEqual(foe, due)
                if due:
                    self.assertEqual(raised(ReachFoe, Field(prime), size, 1, 1, None, None), due)
                    self.assertEqual(raised(ReachFoe, Field(prime), size, 1, 2, None, None), (BadFoe, ("rank",)))
                else:
                    start = unit_row(size, 0)
                    for goal in (unit_row(size, size - 1), packed_row(Field(prime), [2] * size)):
                        if goal != start:
                            self.assertEqual(raised(ReachFoe, Field(prime), size, 1, 1, start, goal), (TooSmall, (prime,)))
                    self.assertEqual(raised(ReachFoe, Field(prime), size, 1, 1, start, None), (BadRow, ("goal",)))

    def test_equality(self):
        first = ReachFoe(FRACTIONS, 1, 1, 1, wholes(1), wholes(0))
        things = [first, first.put(wholes(0)), first.put(wholes(1)), first.put(wholes(0)).put(wholes(1)),
                  first.put(wholes(0)).put(wholes(-4)), ReachFoe(Field(5), 1, 1, 1, wholes(1), wholes(0)),
                  ReachFoe(FRACTIONS, 2, 1, 1, wholes(1, 0), wholes(0, 0)), ReachFoe(FRACTIONS, 1, 2, 1, wholes(1), wholes(0)),
                  ReachFoe(FRACTIONS, 1, 1, 1, wholes(2), wholes(0)), ReachFoe(FRACTIONS, 1, 1, 1, wholes(1), wholes(3)),
                  ReachFoe(FRACTIONS, 2, 2, 1, wholes(1, 0), wholes(0, 0)), ReachFoe(FRACTIONS, 2, 2, 2, wholes(1, 0), wholes(0, 0))]
        check_all_unlike(self, things)
        check_equal(self, first.put([ZERO]).put([ONE]), things[3])
        # Both are shown the same states.
        self.assertEqual(things[3].states, things[4].states)
        check_unlike(self, things[3], things[4])


class Replying(unittest.TestCase):
    def test_by_the_rule(self):
        scales, asked = set(), set()
        for row in plays():
            for foe, (states, directions, images, scale) in zip(row, own_replay(row[-1])):
                self.assertEqual((foe.states, foe.state), (states, states[-1]))
                self.assertEqual((foe.asked, foe.images, foe.scale), (directions, images, scale))
                self.assertEqual((foe.puts, foe.tick), (row[-1].puts[:foe.tick], len(states) - 1))
                self.assertTrue(all_tuples((foe.states, foe.puts, foe.asked, foe.images)))
                scales.add(scale)
                asked.add((foe.inputs, len(directions)))
        self.assertTrue({None, (1, 1), (2, 1)} <= scales, scales)
        self.assertEqual(asked, {(m, k) for m in (1, 2, 3) for k in range(m + 1)})

    def test_the_first_ticks_are_the_same_for_all_inputs(self):
        for row in plays()[::4]:
            foe = row[0]
            state = foe.start
            for told in row[:foe.size + 1]:
                self.assertEqual(told.state, state)
                state = drifted(foe, state)

    def test_scales_by_hand(self):
        # 2 * 2 + c is the goal 5 for c = 1, and 6 for c = 2; so it is 2 or 1.
        for goal, scale in ((5, 2), (6, 1), (7, 1), (0, 1)):
            foe = ReachFoe(FRACTIONS, 1, 1, 1, wholes(1), wholes(goal)).put(wholes(0))
            self.assertIs(foe.scale, None)
            foe = foe.put(wholes(1))
            self.assertEqual((foe.scale, foe.state), ((scale, 1), wholes(4 + scale)))
        # By 3, with n = m = r = 1: 1 * 1 + c is 0 for c = 2 alone.
        foe = ReachFoe(Field(3), 1, 1, 1, wholes(1), wholes(0)).put(wholes(0)).put(wholes(1))
        self.assertEqual((foe.scale, foe.state), (ONE, wholes(2)))
        foe = ReachFoe(Field(3), 1, 1, 1, wholes(2), wholes(0)).put(wholes(0)).put(wholes(1))
        self.assertEqual((foe.scale, foe.state), (ONE, wholes(1)))

    def test_wrong_inputs(self):
        foe = ReachFoe(FRACTIONS, 2, 2, 1, wholes(1, 0), wholes(0, 0))
        for told in (foe, foe.put(wholes(1, 1)), play(foe, zeros, 9)[-1]):
            for row in NO_ROWS:
                self.assertEqual(raised(told.put, row), (BadRow, ("u",)))

    def test_what_is_passed_in_is_not_kept(self):
        start, goal, u = lists(wholes(1, 0)), lists(wholes(0, 0)), lists(wholes(3))
        foe = ReachFoe(FRACTIONS, 2, 1, 1, start, goal)
        heard = foe.put(u=u)
        self.assertEqual((start, goal, u), (lists(wholes(1, 0)), lists(wholes(0, 0)), lists(wholes(3))))
        start[0] = goal[0] = u[0] = (9, 1)
        self.assertEqual((foe.start, foe.goal, foe.states, foe.puts), (wholes(1, 0), wholes(0, 0), (wholes(1, 0),), ()))
        self.assertEqual((heard.puts, heard.tick), ((wholes(3),), 1))


class Facts(unittest.TestCase):
    def test_no_state_before_the_deadline_is_the_goal(self):
        for row in plays():
            foe = row[-1]
            self.assertEqual(foe.deadline, 2 * foe.size + foe.inputs - foe.rank + 1)
            self.assertNotIn(foe.goal, foe.states[:foe.deadline])

    def test_all_inputs_by_three(self):
        field = Field(3)
        for size, inputs, rank, ticks in ((1, 1, 1, 5), (1, 2, 1, 3), (2, 1, 1, 5)):
            for start in all_rows(3, size)[1:3]:
                foes = [ReachFoe(field, size, inputs, rank, start, zero_row(size))]
                for tick in range(1, ticks + 1):
                    foes = [foe.put(u) for foe in foes for u in all_rows(3, inputs)]
                    if tick < foes[0].deadline:
                        self.assertTrue(all(foe.state != foe.goal for foe in foes))

    def test_the_plant_as_it_stands(self):
        for place, row in enumerate(plays()):
            for foe in row[place % 4::4] + row[-1:]:
                field, size, inputs = foe.field, foe.size, foe.inputs
                plant = foe.plant()
                self.assertIsInstance(plant, Plant)
                self.assertEqual((plant.field, plant.size, plant.inputs), (field, size, inputs))
                self.assertEqual(tuple(own_run(plant, foe.start, foe.puts)), foe.states)
                # What was not put is filled in: unit inputs in order, and inputs of 0.
                asked, images = list(foe.asked), list(foe.images)
                for u in unit_table(inputs):
                    if not (asked and lies_in(field, asked, u)):
                        images.append(own_image(foe, len(asked), ONE))
                        asked.append(u)
                for u, image in zip(asked, images):
                    self.assertEqual(own_reply(plant, zero_row(size), u), image)
                state = foe.start
                for tick in range(size):
                    u = foe.puts[tick] if tick < foe.tick else zero_row(inputs)
                    self.assertEqual(own_reply(plant, state, u), drifted(foe, state))
                    state = drifted(foe, state)

    def test_the_plant_is_of_its_class(self):
        for row in plays():
            for foe in row[::4] + row[-1:]:
                plant = foe.plant()
                self.assertTrue(is_controllable(plant))
                self.assertEqual(rank_of_b(plant), foe.rank)

    def test_a_reacher_of_the_class_is_at_the_goal_at_its_deadline_exactly(self):
        for foe in foes():
            reacher = Reacher(foe.field, foe.size, foe.inputs, foe.rank, foe.goal, foe.start)
            while reacher.tick < reacher.deadline:
                self.assertNotEqual(reacher.state, foe.goal)
                foe = foe.put(reacher.choice[1])
                reacher = reacher.hear(foe.state)
            self.assertEqual(foe.tick, foe.deadline)
            self.assertEqual(foe.state, foe.goal)

    def test_reachers_of_other_classes(self):
        for foe in foes()[::5]:
            for rank in range(1, min(foe.size, foe.inputs) + 1):
                told = foe
                reacher = Reacher(foe.field, foe.size, foe.inputs, rank, foe.goal, foe.start)
                while reacher.choice[0] not in ("never", "there") and reacher.tick < foe.deadline + 5:
                    told = told.put(reacher.choice[1])
                    reacher = reacher.hear(told.state)
                    self.assertFalse(told.state == told.goal and told.tick < told.deadline)
                if rank <= foe.rank:
                    self.assertEqual(reacher.choice[0], "there")

    def test_by_hand(self):
        foe = ReachFoe(FRACTIONS, 1, 1, 1, wholes(1), wholes(0))
        self.assertEqual((foe.basis, foe.eigenvalues, foe.deadline), ((wholes(1),), wholes(2), 3))
        foe = foe.put(wholes(0))
        self.assertEqual(foe.state, wholes(2))
        told = foe.put(wholes(1))
        self.assertEqual((told.scale, told.state, told.plant()), (ONE, wholes(5), plant_of(FRACTIONS, [[2]], [[1]])))
        told = foe.put(wholes(-4))
        self.assertEqual((told.scale, told.state), (ONE, wholes(5)))
        self.assertEqual((told.asked, told.images), ((wholes(-4),), (wholes(1),)))
        self.assertEqual(told.plant(), Plant(FRACTIONS, [wholes(2)], [[(-1, 4)]]))

    def test_a_later_plant_may_differ(self):
        foe = ReachFoe(FRACTIONS, 1, 1, 1, wholes(1), wholes(0))
        self.assertEqual(foe.plant(), plant_of(FRACTIONS, [[2]], [[1]]))
        self.assertEqual(foe.put(wholes(3)).plant(), plant_of(FRACTIONS, [[-1]], [[1]]))
        self.assertEqual(foe.plant(), plant_of(FRACTIONS, [[2]], [[1]]))


if __name__ == "__main__":
    unittest.main()
