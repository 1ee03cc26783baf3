"""What the document says of all classes together."""

import unittest
from importlib import import_module
from inspect import isclass

from kinds import check_all_unlike, check_equal
from sums import FRACTIONS, plant_of, wholes
from test_interface import CLASSES, PACKAGE
from untaughthelm.aheadrows import Unlearnt
from untaughthelm.asking import Asker
from untaughthelm.boxes import Bounds, Box, Keeper
from untaughthelm.changefoes import ChangeFoe
from untaughthelm.changing import Changer, Stretch
from untaughthelm.desk import Desk
from untaughthelm.escapes import Escape
from untaughthelm.fields import Field
from untaughthelm.fits import End, Ends, Fit, Prior
from untaughthelm.keeping import Blow, Lost, Stop
from untaughthelm.lateasking import LateAsker
from untaughthelm.latefoes import LateFoe
from untaughthelm.learning import Learning
from untaughthelm.onelaw import OneLaw, Shadow, Silent
from untaughthelm.plants import Plant
from untaughthelm.planttext import parse_plant, plant_text
from untaughthelm.programs import Infeasible, Optimum, Unbounded
from untaughthelm.reaches import longest, puts_to
from untaughthelm.reachfoes import ReachFoe
from untaughthelm.reaching import Never, Reacher
from untaughthelm.records import Record
from untaughthelm.samplelines import Line
from untaughthelm.sizes import Sizes
from untaughthelm.spans import Span
from untaughthelm.stories import Story
from untaughthelm.unseen import UnseenAsker
from untaughthelm.ways import Flat
from untaughthelm.wrongrows import Disguise

ZERO = (0, 1)
ONE = (1, 1)


def one_of_each():
    """An object of each class of the interface, of things that are as alike as can be."""
    field, plant, record = Field(), plant_of(FRACTIONS, [[1]], [[1]]), Record(FRACTIONS, 1, 1)
    row = wholes(1)
    return [
        field, Span(field, 1), plant, record, Escape(1, 1, 1), OneLaw(1, 1), Silent(1), Shadow(1, 1, 1),
        Disguise(1, 1, 1, 1, 1), Asker(field, 1, 1), Learning(1, 1, 1, 1), LateAsker(field, 1, 1, 1), LateFoe(field, 1, 1),
        Unlearnt(1, 1, 1, 1), Line(field, row, (row,)), UnseenAsker(field, 1, 1), Flat(field, row), Never(1, 1),
        Reacher(field, 1, 1, 1, wholes(0), row), ReachFoe(field, 1, 1, 1, row, wholes(0)), Optimum(1, 1), Infeasible(1),
        Unbounded(1, 1), Prior(1, 1, 1, 1), Fit(record, row), End(1, 1, 1, 1), Ends(1, 1), Box(wholes(0), row),
        Bounds(wholes(0), row), Keeper(1, 1), Blow(1, 1, 1, 1), Stop(1, 1), Lost(1, 1, 1), Sizes(1, 1), Stretch(1, 1, 1),
        Changer(field, 1, 1, 1, row), ChangeFoe(field, 1, 1, 1, row, 1), Story(1, 1, 1, 1), Desk(field, 1, 1),
    ]


class Classes(unittest.TestCase):
    def test_all_of_the_interface_are_here(self):
        found = {(type(thing).__module__.partition(".")[2], type(thing).__name__) for thing in one_of_each()}
        self.assertEqual(found, set(CLASSES))

    def test_objects_of_unlike_classes_are_unequal(self):
        check_all_unlike(self, one_of_each())

    def test_equal_objects(self):
        for one, other in zip(one_of_each(), one_of_each()):
            self.assertIsNot(one, other)
            check_equal(self, one, other)

    def test_each_class_has_its_own_methods(self):
        for module, name in CLASSES:
            told = getattr(import_module("untaughthelm." + module), name)
            self.assertIn("__init__", vars(told))
            self.assertIn("__eq__", vars(told))

    def test_no_file_is_left_out(self):
        named = {module for module, _ in CLASSES}
        for path in PACKAGE.glob("*.py"):
            module = import_module("untaughthelm" + ("" if path.stem == "__init__" else "." + path.stem))
            for name, thing in vars(module).items():
                if isclass(thing) and thing.__module__ == module.__name__ and path.stem in named:
                    self.assertTrue(thing.__doc__)


class TwoWays(unittest.TestCase):
    """Objects that go on in two ways from one state leave each other, and it, as they were."""

    def check(self, first, go_on, ways):
        kept = go_on(first, ways[0]), go_on(first, ways[1])
        again = go_on(first, ways[0]), go_on(first, ways[1])
        before = dict(vars(first))
        one, other = go_on(first, ways[0]), go_on(first, ways[1])
        for way in ways:
            one, other = go_on(one, way), go_on(other, way)
        self.assertEqual(kept, again)
        self.assertNotEqual(kept[0], kept[1])
        self.assertEqual(vars(first), before)
        self.assertEqual((go_on(first, ways[0]), go_on(first, ways[1])), kept)

    def test_programs_and_foes(self):
        for field in (FRACTIONS, Field(7)):
            row, other = wholes(1, 2), wholes(3, 1)

            def heard(program, y):
                return program.hear(y)

            def put(foe, u):
                return foe.put(u)

            asker = Asker(field, 2, 1)
            self.check(asker, lambda told, u: told.hear(row, u, (u[0], ONE)), (wholes(1), wholes(2)))
            self.check(LateAsker(field, 2, 1, 0, row), heard, (wholes(5, 6), wholes(0, 1)))
            self.check(LateFoe(field, 2, 1), put, (wholes(1), wholes(2)))
            self.check(UnseenAsker(field, 2, 2), heard, (ONE, (2, 1)))
            for rank in (1, None):
                self.check(Reacher(field, 2, 2, rank, wholes(0, 0), row), heard, (other, wholes(4, 4)))
            self.check(Changer(field, 2, 2, 1, row), heard, (other, wholes(4, 4)))
            self.check(Changer(field, 2, 2, 2, row, True), heard, (other, wholes(4, 4)))
            self.check(ReachFoe(field, 2, 2, 1, row, wholes(0, 0)), put, (other, wholes(0, 0)))
            self.check(ChangeFoe(field, 2, 2, 2, row, 2), put, (other, wholes(0, 0)))

    def test_rows_and_records(self):
        self.check(Span(FRACTIONS, 2), lambda span, row: span.with_row(row), (wholes(1, 2), wholes(0, 1)))
        self.check(Record(FRACTIONS, 1, 1), lambda told, y: told.with_row(wholes(1), wholes(0), y), (wholes(1), wholes(2)))

    def test_desks(self):
        desk, other = Desk(FRACTIONS, 1, 1), Desk(FRACTIONS, 1, 1)
        plant = plant_of(FRACTIONS, [[2]], [[1]])
        for told in (desk, other):
            told.take_deed(("plant", plant))
            told.take_deed(("begin", wholes(1)))
        desk.take_deed(("put", wholes(1)))
        self.assertEqual((other.states, len(other.deeds)), ((wholes(1),), 2))
        self.assertEqual(desk.states, (wholes(1), wholes(3)))


class LongNumbers(unittest.TestCase):
    def test_texts_of_plants(self):
        for figures, read in ((200, True), (201, False)):
            for number in ((10 ** (figures - 1), 1), (-10 ** (figures - 1), 1), (1, 10 ** (figures - 1))):
                plant = Plant(FRACTIONS, [(number,)], [(ONE,)])
                text = plant_text(plant)
                self.assertIn("0" * (figures - 1), text)
                if read:
                    self.assertEqual(parse_plant(text), plant)
                else:
                    with self.assertRaises(ValueError):
                        parse_plant(text)

    def test_numbers_of_three_hundred_figures(self):
        long = 10 ** 299 + 7
        plant = Plant(FRACTIONS, [((long, 1), ZERO), ((1, long), ONE)], [(ONE,), ((-long, 1),)])
        self.assertEqual(longest(plant), 2)
        puts = puts_to(plant, wholes(0, 0), wholes(1, 1), 2)
        self.assertEqual(plant.run(wholes(0, 0), puts)[-1], wholes(1, 1))


if __name__ == "__main__":
    unittest.main()
