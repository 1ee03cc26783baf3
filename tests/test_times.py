"""The greatest sizes that the document lets, in a time that a slow machine keeps as well."""

import unittest
from random import Random

from sums import own_reply
from timing import KINDS, Timed
from untaughthelm.escapes import falling, find_escape
from untaughthelm.onelaw import one_law
from untaughthelm.plants import Plant
from untaughthelm.planttext import parse_plant, plant_text
from untaughthelm.reaches import drift, hull, input_rank, longest, nulls, puts_to, reach, responses, uncontrolled
from untaughthelm.records import Record
from untaughthelm.unlike import fitting_plant, missed, reply, unlike


class Times(Timed):
    def kinds(self):
        for seed, (field, number) in enumerate(KINDS):
            source = Random(seed)

            def row(width):
                return tuple(number(source) for _ in range(width))

            a = [row(4) for _ in range(4)]
            yield row, Plant(field, a, [row(3) for _ in range(4)])
            # The same with a state that no input moves and one that is forgotten.
            b = [row(3), row(3), row(3), ((0, 1),) * 3]
            yield row, Plant(field, [a[0], ((0, 1),) * 4, a[2], ((0, 1),) * 3 + (a[3][3],)], b)

    def test_sixty_ticks(self):
        for row, plant in self.kinds():
            x, goal = row(4), row(4)
            self.timed(drift, plant, x, 60)
            self.assertEqual(len(self.timed(responses, plant, 60)[0]), 180)
            puts = self.timed(puts_to, plant, x, goal, 60)
            if puts is not None:
                self.assertEqual(plant.run(x, puts)[-1], goal)
            for call in (reach, nulls):
                self.assertEqual(self.timed(call, plant, 60), self.timed(call, plant, 4))
            for call in (input_rank, longest, uncontrolled, plant_text):
                self.timed(call, plant)
            self.timed(hull, plant, x)
            self.assertEqual(self.timed(parse_plant, plant_text(plant)), plant)

    def test_thirty_rows(self):
        for row, plant in self.kinds():
            told = [(x, u, own_reply(plant, x, u)) for x, u in [(row(4), row(3)) for _ in range(30)]]
            self.calls(plant, self.timed(Record, plant.field, 4, 3, told), row)
            self.timed(Record.of_run, plant, row(4), [row(3) for _ in range(30)])

    def test_few_rows(self):
        for row, plant in self.kinds():
            for many in (0, 1, 3, 4, 5, 6):
                told = [(x, u, own_reply(plant, x, u)) for x, u in [(row(4), row(3)) for _ in range(many)]]
                self.calls(plant, self.timed(Record, plant.field, 4, 3, told), row)

    def calls(self, plant, record, row):
        self.assertIs(self.timed(record.quarrel), None)
        self.assertEqual(self.timed(missed, record, plant), ())
        self.assertEqual(missed(record, self.timed(fitting_plant, record)), ())
        x, u = row(4), row(3)
        for call in (reply, unlike):
            self.timed(call, record, x, u)
        for call in (falling, find_escape, one_law):
            self.timed(call, record)
        self.timed(record.weights, x, u)
        self.timed(record.without, [0, 2] if len(record) > 2 else [])
        self.timed(record.cut, 0, len(record))


if __name__ == "__main__":
    unittest.main()
