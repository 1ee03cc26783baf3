import unittest
from functools import lru_cache
from random import Random

from classes import drawn_row, plants_of_classes
from exchanges import drawn_pushes, drawn_schedule, lead, own_plant_at, plants_of
from kinds import check_all_unlike, check_equal, check_result, check_unlike
from linear import starts_of
from measured import SHAPES
from sums import FRACTIONS, NO_ROWS, all_tuples, lists, own_reply, plant_of, raised, wholes
from timing import KINDS, Timed
from untaughthelm.changing import Changer, Stretch, rest_ticks, unrest_ticks
from untaughthelm.errors import BadChanger, BadRow, Quarrel
from untaughthelm.fields import Field
from untaughthelm.plants import Plant
from untaughthelm.reaching import Reacher
from untaughthelm.rows import zero_row

ZERO = (0, 1)
ONE = (1, 1)
CLASSES = tuple((size, inputs, rank) for size, inputs in SHAPES for rank in range(1, min(size, inputs) + 1))
PRIMES = (None, 2, 3, 5, 7)
# x' = 2 x + u, and others for exchanges.
DOUBLE = plant_of(FRACTIONS, [[2]], [[1]])
TRIPLE = plant_of(FRACTIONS, [[3]], [[1]])
BACK = plant_of(FRACTIONS, [[2]], [[-1]])


def own_changers(changer, replies):
    """For each tick the choice, state, begin and stretches of the rule of 15.4, worked out by Reachers."""
    field, size, inputs, rank = changer.field, changer.size, changer.inputs, changer.rank
    zero = zero_row(size)

    def fresh(state, first=None):
        return Reacher(field, size, inputs, rank, zero, state, first=first)

    reacher, begin, stretches = fresh(changer.start), 0, ()
    told = [(reacher.choice, reacher.state, begin, stretches)]
    for tick, y in enumerate(replies):
        state, put = reacher.state, reacher.choice[1]
        try:
            reacher = reacher.hear(y)
        except Quarrel:
            with_row = not changer.pushed and state != zero
            after = tick if with_row else tick + 1
            stretches += (Stretch(begin, after, "quarrel"),)
            begin, reacher = after, fresh(state, (put, y)) if with_row else fresh(y)
        else:
            if reacher.choice[0] == "never":
                stretches += (Stretch(begin, tick + 1, "lost"),)
                begin, reacher = tick + 1, fresh(reacher.state)
        told.append((reacher.choice, reacher.state, begin, stretches))
    return told


@lru_cache(None)
def led_changers():
    """Changers of each tick, with and without exchanges and pushes: (schedule, pushes, the row of Changers)."""
    told = []
    for prime in PRIMES:
        for place, ((size, inputs, rank), plants) in list(enumerate(sorted(plants_of(prime).items())))[:None if prime else 9]:
            source = Random(place)
            others = [plant for _, plant in plants_of_classes(prime, Field)
                      if (plant.size, plant.inputs) == (size, inputs)]
            for pushed in (False, True):
                field = Field(prime)
                start = starts_of(field, size)[1 + place % 3]
                ticks = 2 * (2 * size + inputs)
                # Plants of the class, then of any class.
                for of_class, many in ((plants, 1), (plants, 3), (others, 4)):
                    schedule = drawn_schedule(source, of_class, many, ticks)
                    pushes = drawn_pushes(source, field, size, source.randint(0, 3), ticks) if pushed else ()
                    changer = Changer(field, size, inputs, rank, start, pushed)
                    told.append((schedule, pushes, lead(changer, schedule, ticks, pushes)))
    return tuple(told)


class Ticks(unittest.TestCase):
    def test_at_all_sizes(self):
        for size, inputs, rank in CLASSES:
            for exchanges in (0, 1, 2, 7, 60):
                self.assertEqual(rest_ticks(size, inputs, rank, exchanges), (exchanges + 1) * (2 * size + inputs - rank) + 1)
                for pushes in (0, 1, 60):
                    self.assertEqual(unrest_ticks(size, inputs, rank, exchanges, pushes),
                                     (exchanges + pushes + 1) * (2 * size + inputs - rank + 1))
        self.assertEqual(rest_ticks(size=1, inputs=1, rank=1, exchanges=2), 7)
        self.assertEqual(unrest_ticks(size=1, inputs=1, rank=1, exchanges=2, pushes=1), 12)

    def test_errors(self):
        no_numbers = (-1, 61, None, True, False, "1", ONE)
        for call, more in ((rest_ticks, 0), (unrest_ticks, 1)):
            for size in (0, 5, None, True, "1", ONE):
                self.assertEqual(raised(call, size, 9, 9, None, *[None] * more), (BadChanger, ("size",)))
            for inputs in (0, 4, None, True, "1", ONE):
                self.assertEqual(raised(call, 1, inputs, 9, None, *[None] * more), (BadChanger, ("inputs",)))
            for rank in (0, 2, -1, None, True, "1", ONE):
                self.assertEqual(raised(call, 1, 3, rank, None, *[None] * more), (BadChanger, ("rank",)))
                self.assertEqual(raised(call, 3, 1, rank, None, *[None] * more), (BadChanger, ("rank",)))
            for exchanges in no_numbers:
                self.assertEqual(raised(call, 2, 2, 2, exchanges, *[None] * more), (BadChanger, ("exchanges",)))
        for pushes in no_numbers:
            self.assertEqual(raised(unrest_ticks, 2, 2, 2, 60, pushes), (BadChanger, ("pushes",)))


class Making(unittest.TestCase):
    def test_stretch(self):
        check_result(self, Stretch, ("begin", "end", "why"))

    def test_errors(self):
        for size in (0, 5, None, True, "1", ONE, [1]):
            self.assertEqual(raised(Changer, FRACTIONS, size, 9, 9, None, None), (BadChanger, ("size",)))
        for inputs in (0, 4, None, True, "1", ONE, [1]):
            self.assertEqual(raised(Changer, FRACTIONS, 2, inputs, 9, None, None), (BadChanger, ("inputs",)))
        for size, inputs, rank in ((1, 3, 2), (3, 1, 2), (2, 2, 3), *[(2, 2, rank) for rank in (0, -1, None, True, "1", ONE)]):
            self.assertEqual(raised(Changer, FRACTIONS, size, inputs, rank, None, None), (BadChanger, ("rank",)))
        for start in NO_ROWS:
            self.assertEqual(raised(Changer, FRACTIONS, 2, 1, 1, start, None), (BadRow, ("start",)))
        for pushed in (None, 0, 1, "True", "", ONE, []):
            self.assertEqual(raised(Changer, FRACTIONS, 2, 1, 1, wholes(0, 0), pushed), (BadChanger, ("pushed",)))
        for pushed in (True, False):
            self.assertIs(Changer(FRACTIONS, 2, 1, 1, wholes(0, 0), pushed).pushed, pushed)
        changer = Changer(FRACTIONS, 2, 1, 1, wholes(1, 0))
        for row in NO_ROWS:
            self.assertEqual(raised(changer.hear, row), (BadRow, ("y",)))
            self.assertEqual(raised(changer.hear(wholes(1, 1)).hear, row), (BadRow, ("y",)))

    def test_at_first(self):
        for size, inputs, rank in CLASSES:
            for start in starts_of(FRACTIONS, size):
                changer = Changer(FRACTIONS, size, inputs, rank, list(start))
                self.assertEqual((changer.field, changer.size, changer.inputs, changer.rank), (FRACTIONS, size, inputs, rank))
                self.assertEqual((changer.start, changer.state, changer.heard, changer.tick), (start, start, (), 0))
                self.assertEqual((changer.pushed, changer.begin, changer.stretches), (False, 0, ()))
                word = "there" if start == zero_row(size) else "ask"
                self.assertEqual(changer.choice, (word, zero_row(inputs)))

    def test_what_is_passed_in_is_not_kept(self):
        start, y = lists(wholes(1)), lists(wholes(2))
        changer = Changer(field=FRACTIONS, size=1, inputs=1, rank=1, start=start, pushed=True)
        heard = changer.hear(y=y)
        self.assertEqual((start, y), (lists(wholes(1)), lists(wholes(2))))
        start[0] = y[0] = (9, 1)
        self.assertEqual((heard.start, heard.heard, heard.state, changer.heard), (wholes(1), (wholes(2),), wholes(2), ()))

    def test_equality(self):
        def made(*things, **more):
            return Changer(FRACTIONS, *things, **more)

        first = made(1, 1, 1, wholes(1))
        things = [first, first.hear(wholes(2)), first.hear(wholes(3)), first.hear(wholes(2)).hear(wholes(4)),
                  made(1, 1, 1, wholes(1), True), made(1, 1, 1, wholes(2)), made(1, 2, 1, wholes(1)),
                  made(2, 1, 1, wholes(1, 0)), made(2, 2, 1, wholes(1, 0)), made(2, 2, 2, wholes(1, 0)),
                  Changer(Field(5), 1, 1, 1, wholes(1)), made(1, 1, 1, wholes(1), pushed=True).hear(wholes(2)),
                  Reacher(FRACTIONS, 1, 1, 1, wholes(0), wholes(1))]
        check_all_unlike(self, things)
        check_equal(self, made(1, 1, 1, [ONE], False).hear([(2, 1)]), things[1])
        # Now both stand alike, but they have heard unlike replies.
        check_unlike(self, made(1, 1, 1, wholes(0)).hear(wholes(0)), made(1, 1, 1, wholes(0)))


class Leading(unittest.TestCase):
    def test_by_the_rule(self):
        whys, choices = set(), set()
        for schedule, pushes, row in led_changers():
            for changer, due in zip(row, own_changers(row[0], row[-1].heard)):
                self.assertEqual((changer.choice, changer.state, changer.begin, changer.stretches), due)
                self.assertEqual((changer.tick, changer.heard), (len(changer.heard), row[-1].heard[:changer.tick]))
                self.assertTrue(all_tuples((changer.heard, changer.state, changer.choice[1])))
                self.assertIsInstance(changer.stretches, tuple)
                self.assertEqual(changer.start, row[0].start)
                choices.add(changer.choice[0])
            whys |= {(changer.pushed, stretch.why) for stretch in changer.stretches}
        self.assertEqual(choices, {"there", "way", "ask"})
        self.assertEqual(whys, {(pushed, why) for pushed in (False, True) for why in ("quarrel", "lost")})

    def test_stretches_follow_each_other(self):
        for schedule, pushes, row in led_changers():
            begins = [stretch.begin for stretch in row[-1].stretches] + [row[-1].begin]
            ends = [stretch.end for stretch in row[-1].stretches]
            self.assertEqual(begins, [0] + ends)
            self.assertTrue(all(isinstance(stretch, Stretch) for stretch in row[-1].stretches))

    def words(self, changer, plants, pushes=()):
        return lead(changer, plants, 8, pushes)

    def test_no_exchange(self):
        row = self.words(Changer(FRACTIONS, 1, 1, 1, wholes(1)), ((0, DOUBLE),))
        self.assertEqual([changer.choice for changer in row[:4]],
                         [("ask", wholes(0)), ("ask", wholes(1)), ("way", wholes(-10)), ("there", wholes(0))])
        self.assertEqual((row[-1].stretches, row[-1].begin), ((), 0))

    def test_an_exchange_that_shows_at_once(self):
        # The way is put at tick 2, and the reply of the new plant is not 0 but 15 - 10.
        row = self.words(Changer(FRACTIONS, 1, 1, 1, wholes(1)), ((0, DOUBLE), (2, TRIPLE)))
        self.assertEqual(row[3].state, wholes(5))
        self.assertEqual((row[3].stretches, row[3].begin), ((Stretch(0, 2, "quarrel"),), 2))
        # It knows the row (5; -10; 5), so that at 5 the input 0 is asked next.
        self.assertEqual([changer.choice for changer in row[3:6]],
                         [("ask", wholes(0)), ("way", wholes(-45)), ("there", wholes(0))])
        # Where pushes are possible, the row may be one, and the next stretch knows nothing.
        row = self.words(Changer(FRACTIONS, 1, 1, 1, wholes(1), True), ((0, DOUBLE), (2, TRIPLE)))
        self.assertEqual((row[3].stretches, row[3].begin), ((Stretch(0, 3, "quarrel"),), 3))
        self.assertEqual([changer.choice for changer in row[3:7]],
                         [("ask", wholes(0)), ("ask", wholes(1)), ("way", wholes(-138)), ("there", wholes(0))])

    def test_an_exchange_at_rest(self):
        # Nothing shows it at rest, but a push.
        row = self.words(Changer(FRACTIONS, 1, 1, 1, wholes(1)), ((0, DOUBLE), (4, TRIPLE)))
        self.assertEqual((row[-1].stretches, row[-1].state), ((), wholes(0)))
        for pushed in (False, True):
            row = self.words(Changer(FRACTIONS, 1, 1, 1, wholes(1), pushed), ((0, DOUBLE), (4, TRIPLE)), ((5, wholes(2)),))
            self.assertEqual((row[6].stretches, row[6].begin, row[6].state), ((Stretch(0, 6, "quarrel"),), 6, wholes(2)))
            self.assertEqual(row[6].choice, ("ask", wholes(0)))

    def test_an_exchange_that_does_not_show(self):
        # The second row is the new plant's: both rows together tell x' = 2 x - u, which is right from then on.
        row = self.words(Changer(FRACTIONS, 1, 1, 1, wholes(1)), ((0, DOUBLE), (1, BACK)))
        self.assertEqual([changer.choice for changer in row[:4]],
                         [("ask", wholes(0)), ("ask", wholes(1)), ("way", wholes(6)), ("there", wholes(0))])
        self.assertEqual(row[-1].stretches, ())

    def test_lost(self):
        # The two rows tell x' = 2 x, from which nothing leads to 0; the second plant forgets the input.
        still = plant_of(FRACTIONS, [[2]], [[0]])
        row = self.words(Changer(FRACTIONS, 1, 1, 1, wholes(1)), ((0, DOUBLE), (1, still), (2, TRIPLE)))
        self.assertEqual((row[2].stretches, row[2].begin, row[2].state), ((Stretch(0, 2, "lost"),), 2, wholes(4)))
        self.assertEqual([changer.choice for changer in row[2:6]],
                         [("ask", wholes(0)), ("ask", wholes(1)), ("way", wholes(-111)), ("there", wholes(0))])

    def test_several_exchanges(self):
        schedule = ((0, DOUBLE), (2, TRIPLE), (4, BACK), (5, DOUBLE))
        row = lead(Changer(FRACTIONS, 1, 1, 1, wholes(1)), schedule, 12)
        self.assertGreaterEqual(len(row[-1].stretches), 2)
        self.assertEqual(row[-1].state, wholes(0))

    def test_a_push_of_zeros(self):
        plain = self.words(Changer(FRACTIONS, 1, 1, 1, wholes(1), True), ((0, DOUBLE),))
        pushes = tuple((tick, wholes(0)) for tick in range(8))
        self.assertEqual(self.words(Changer(FRACTIONS, 1, 1, 1, wholes(1), True), ((0, DOUBLE),), pushes), plain)

    def test_two_ways_from_one_state(self):
        changer = Changer(FRACTIONS, 1, 1, 1, wholes(1)).hear(wholes(2))
        one, other = changer.hear(wholes(5)), changer.hear(wholes(4))
        self.assertEqual((changer.tick, changer.state, changer.heard), (1, wholes(2), (wholes(2),)))
        self.assertEqual((one.choice, other.begin), (("way", wholes(-10)), 2))


class Facts(unittest.TestCase):
    def test_at_rest_in_time(self):
        last = set()
        for prime in PRIMES:
            for place, ((size, inputs, rank), plants) in enumerate(sorted(plants_of(prime).items())):
                source = Random(place)
                field = Field(prime)
                for many in (0, 1, 2, 3):
                    due = rest_ticks(size, inputs, rank, many)
                    # The exchanges may come next to each other, in good time, or when all seems done.
                    for within in sorted({many, due - 1, due + 4}) if many else (0,):
                        schedule = drawn_schedule(source, plants, many, within)
                        start = drawn_row(field, source, size)
                        row = lead(Changer(field, size, inputs, rank, start), schedule, due + 8)
                        for changer in row[due:]:
                            self.assertEqual(changer.state, zero_row(size))
                        self.assertLessEqual(len(row[-1].stretches), many)
                        last.add(len(row[-1].stretches))
        self.assertTrue({0, 1, 2} <= last, last)

    def test_few_ticks_of_unrest(self):
        for prime in (None, 2, 3, 7):
            for place, ((size, inputs, rank), plants) in enumerate(sorted(plants_of(prime).items())):
                source = Random(place)
                field = Field(prime)
                for exchanges, many in ((0, 0), (0, 2), (1, 1), (2, 2)):
                    schedule = drawn_schedule(source, plants, exchanges, 55)
                    pushes = drawn_pushes(source, field, size, many, 55)
                    row = lead(Changer(field, size, inputs, rank, drawn_row(field, source, size), True), schedule, 60, pushes)
                    unrest = sum(1 for changer in row if changer.state != zero_row(size))
                    self.assertLessEqual(unrest, unrest_ticks(size, inputs, rank, exchanges, many))
                    self.assertLessEqual(len(row[-1].stretches), exchanges + many)


class Times(Timed):
    def test_sixty_ticks(self):
        for seed, (field, number) in enumerate(KINDS):
            source = Random(seed)

            def row(width):
                return tuple(number(source) for _ in range(width))

            plants = [Plant(field, [row(4) for _ in range(4)], [row(3) for _ in range(4)]) for _ in range(3)]
            for pushed in (False, True):
                changer = Changer(field, 4, 3, 1, row(4), pushed)
                for tick in range(60):
                    plant = own_plant_at(((0, plants[0]), (5, plants[1]), (12, plants[2])), tick)
                    changer = self.timed(changer.hear, own_reply(plant, changer.state, changer.choice[1]))
                self.assertEqual(changer.tick, 60)


if __name__ == "__main__":
    unittest.main()
