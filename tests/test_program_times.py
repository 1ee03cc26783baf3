"""Programs and foes at the greatest sizes that the document lets, in a time that a slow machine keeps as well."""

import unittest
from random import Random

from sums import FRACTIONS, own_reply
from timing import KINDS, Timed
from untaughthelm.aheadrows import deep_rank, deep_weights, finished_row, made_row, unlearnt, unlearnt_fault
from untaughthelm.asking import Asker
from untaughthelm.fields import Field
from untaughthelm.lateasking import LateAsker, learn_late
from untaughthelm.latefoes import LateFoe
from untaughthelm.learning import learn, learning_fault
from untaughthelm.plants import Plant
from untaughthelm.polynomials import common_divisor, poly_rest, poly_times
from untaughthelm.reachfoes import ReachFoe
from untaughthelm.reaching import Reacher, never_fault
from untaughthelm.records import Record
from untaughthelm.rows import unit_row, zero_row
from untaughthelm.samplelines import Line, memory
from untaughthelm.unseen import UnseenAsker, next_output, twin_line
from untaughthelm.ways import Flat, inputs_to, known_reply, way_back, ways
from untaughthelm.wrongrows import disguise, fitting_lots, loose, sure_reply

# In runs of many ticks the numbers grow from tick to tick; those of 30 figures would grow too long.
SHORT_KINDS = tuple(kind for kind in KINDS if kind[1] is not KINDS[1][1])


def drawn(kinds):
    """For each kind of numbers the field and what draws rows of them."""
    for seed, (field, number) in enumerate(kinds):
        source = Random(seed)

        def row(width):
            return tuple(number(source) for _ in range(width))

        yield field, row


def plant_of_kind(field, row):
    return Plant(field, [row(4) for _ in range(4)], [row(3) for _ in range(4)])


class Records(Timed):
    def test_twelve_rows_with_wrong_ones(self):
        for field, row in drawn(KINDS):
            plant = plant_of_kind(field, row)
            rows = [(x, u, own_reply(plant, x, u)) for x, u in [(row(4), row(3)) for _ in range(12)]]
            for many in (12, 9, 5):
                record = Record(field, 4, 3, rows[:many])
                for wrong in (0, 1, 2):
                    self.timed(fitting_lots, record, wrong)
                    self.timed(sure_reply, record, wrong, row(4), row(3))
                    self.timed(loose, record, wrong)
                    self.timed(disguise, record, wrong)


class Learnings(Timed):
    def test_learning(self):
        for field, row in drawn(KINDS):
            plant, start = plant_of_kind(field, row), row(4)
            learning = self.timed(learn, plant, start)
            self.assertIs(self.timed(learning_fault, field, 4, 3, learning), None)
            asker = Asker(field, 4, 3)
            for x, u, y in zip(learning.states, learning.puts, learning.states[1:]):
                asker = self.timed(asker.hear, x, u, y)
            for call, things in ((asker.ask, (start,)), (asker.reply, (start, row(3))), (asker.known, ()),
                                 (asker.closed, (start,)), (Asker, (field, 4, 3, asker.kept))):
                self.timed(call, *things)
            for late in range(7):
                self.timed(learn_late, plant, start, late)

    def test_late_foes(self):
        for field, row in drawn(SHORT_KINDS):
            for late in (0, 1, 4, 6):
                foe = LateFoe(field, 4, late)
                asker = LateAsker(field, 4, 1, late, foe.shown[0] if late == 0 else None)
                for tick in range(60):
                    due = tick + 1 - late
                    put = row(1) if asker.choice is None else asker.choice
                    foe = self.timed(foe.put, put)
                    if asker.choice is not None:
                        asker = self.timed(asker.hear, foe.shown[due] if due >= 0 else None)
                    for call in (foe.tie, foe.start, foe.plant):
                        self.timed(call)
                    if tick % 10 == 0:
                        self.timed(foe.unlike)
                self.assertEqual(len(foe.puts), 60)
                still = self.timed(LateFoe, field, 4, late, [row(1)] * 60)
                self.timed(still.unlike)


class Ahead(Timed):
    def test_sixty_inputs(self):
        for field, row in drawn(KINDS):
            # Drawn ones, and ones of which the last number is the sum of the others.
            free = [row(3) for _ in range(60)]
            bound = [(a, b, field.plus(a, b)) for a, b in [row(2) for _ in range(60)]]
            for puts in (free, bound, free[:15], [row(3)] * 60):
                for depth in (1, 5, 8):
                    self.timed(deep_rank, field, 3, puts, depth)
                self.timed(finished_row, field, 4, 3, puts)
                self.timed(deep_weights, field, 4, 3, puts)
                told = self.timed(unlearnt, field, 4, 3, puts)
                if told is not None:
                    self.assertIs(self.timed(unlearnt_fault, field, 4, 3, puts, told), None)
            self.timed(made_row, field, 4, 3)

    def test_polynomials(self):
        for field, row in drawn(KINDS):
            one, other, factor = [row(5) + ((1, 1),) for _ in range(3)]
            polys = [self.timed(poly_times, field, poly, factor) for poly in (one, other)]
            self.assertEqual(poly_rest(field, self.timed(common_divisor, field, polys), factor), ())
            self.timed(poly_rest, field, polys[0], one)


class Samples(Timed):
    def test_sixty_samples(self):
        for field, row in drawn(SHORT_KINDS):
            line = Line(field, row(4), [row(3) for _ in range(4)])
            puts, start = [row(3) for _ in range(60)], row(4)
            samples = list(zip(self.timed(line.outputs, start, puts), puts))
            self.timed(line.common_part)
            for many in (60, 59, 24, 12, 4):
                told = samples[:many]
                self.assertEqual(self.timed(line.misses, told), ())
                for call, things in ((memory, (4, told)), (line.own_state, (told,)), (twin_line, (line, told)),
                                     (next_output, (field, 4, 3, told))):
                    self.timed(call, *things)
                asker = self.timed(UnseenAsker, field, 4, 3, told)
                self.timed(asker.line)
                if many < 60:
                    self.timed(asker.hear, line.outputs(line.own_state(told), ())[0])

    def test_sixty_outputs(self):
        for field, row in drawn(KINDS):
            line = Line(field, row(4), [row(3) for _ in range(4)])
            state, asker, plant = row(4), UnseenAsker(field, 4, 3), line.plant()
            for _ in range(60):
                asker = self.timed(asker.hear, state[0])
                state = own_reply(plant, state, asker.choice[1])
            self.assertEqual(len(asker.samples), 60)


class Reaching(Timed):
    def test_ways(self):
        for field, row in drawn(KINDS):
            plant = plant_of_kind(field, row)
            kept = [(x, u, own_reply(plant, x, u)) for x, u in [(row(4), row(3)) for _ in range(7)]]
            for many in (0, 3, 5, 7):
                rows = independent(field, kept[:many])
                flat = self.timed(Flat, field, row(4), [row(4), row(4)])
                self.timed(ways, field, rows, row(4), 60 if many != 5 else 12)
                self.timed(way_back, field, rows, flat)
                self.timed(inputs_to, field, 3, rows, row(4), flat)
                self.timed(known_reply, field, rows, row(4), row(3))

    def test_reachers(self):
        for field, row in drawn(KINDS):
            plant = plant_of_kind(field, row)
            for rank in (None, 1, 3):
                for goal in (zero_row(4), row(4)) if rank else (zero_row(4),):
                    reacher = Reacher(field, 4, 3, rank, goal, row(4))
                    while reacher.choice[0] not in ("there", "never") and reacher.tick < 40:
                        reacher = self.timed(reacher.hear, own_reply(plant, reacher.state, reacher.choice[1]))
                    self.assertIn(reacher.choice[0], ("there", "never"))

    def test_never(self):
        for field, row in drawn(KINDS):
            still = Plant(field, plant_of_kind(field, row).a, [zero_row(3)] * 4)
            reacher = Reacher(field, 4, 3, 1, row(4), zero_row(4))
            while reacher.choice[0] == "ask":
                reacher = self.timed(reacher.hear, own_reply(still, reacher.state, reacher.choice[1]))
            if reacher.choice[0] == "never":
                ticks = max(0, reacher.deadline - reacher.tick)
                fault = self.timed(never_fault, field, 3, reacher.kept, reacher.state, reacher.goal, ticks, reacher.choice[1])
                self.assertIs(fault, None)

    def test_foes(self):
        for field, row in drawn(SHORT_KINDS):
            if field == Field(2):
                continue
            for rank in (1, 3):
                goals = (zero_row(4), row(4)) if field == FRACTIONS else (zero_row(4),)
                for goal in goals:
                    foe = self.timed(ReachFoe, field, 4, 3, rank, unit_row(4, 2), goal)
                    for tick in range(60):
                        foe = self.timed(foe.put, row(3))
                        self.timed(foe.plant)
                    self.assertEqual(foe.tick, 60)


def independent(field, rows):
    """Those rows whose z are new, as an Asker keeps them."""
    asker = Asker(field, 4, 3)
    for x, u, y in rows:
        asker = asker.hear(x, u, y)
    return asker.kept


if __name__ == "__main__":
    unittest.main()
