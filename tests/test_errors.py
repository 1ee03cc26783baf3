import unittest

from untaughthelm import errors
from untaughthelm.errors import BadNumber, BadPlant, BadRow, BadTable, HelmError, MixedFields, NoFit, Quarrel

# The row of classes under "untaughthelm/errors.py" in the interface.
ROW = """BadField(prime), BadNumber(thing), MixedFields(), BadText(place), BadTable(what), BadRow(what),
BadPlant(what, at), BadTicks(ticks), BadRecord(what), BadCut(low, high), BadLot(lot), NoFit(), BadWrong(wrong),
BadAsker(what), Quarrel(weights), NotShown(tick), BadAhead(what), BadLine(what), BadSamples(what), BadReacher(what),
NothingPut(), BadFoe(what), TooSmall(prime), BadProgram(what, at), BadFit(what), NoState(state), BadBox(what),
BadBounds(what), Outside(state), BadSchedule(what, at), BadChanger(what), BadDesk(what), BadDeed(what), NoPlant(),
NoRun(), NoDuty(), LongRun(), Idle(), NoDeed()"""


def told_classes():
    """The names of the classes, each with the names of its attributes."""
    row = ROW.replace("\n", " ")
    for told in row.split("), "):
        name, _, names = told.rstrip(")").partition("(")
        yield name, [part for part in names.split(", ") if part]


class Errors(unittest.TestCase):
    def test_helm_error_stands_directly_under_value_error(self):
        self.assertEqual(HelmError.__bases__, (ValueError,))

    def test_each_error_stands_directly_under_helm_error(self):
        names = [name for name, _ in told_classes()]
        self.assertEqual(len(names), 39)
        for name in names:
            with self.subTest(name):
                self.assertEqual(getattr(errors, name).__bases__, (HelmError,))

    def test_there_are_no_other_errors(self):
        found = {name for name, thing in vars(errors).items() if isinstance(thing, type)}
        self.assertEqual(found, {name for name, _ in told_classes()} | {"HelmError"})

    def test_attributes_by_place(self):
        for name, names in told_classes():
            with self.subTest(name):
                values = [object() for _ in names]
                error = getattr(errors, name)(*values)
                for attribute, value in zip(names, values):
                    self.assertIs(getattr(error, attribute), value)

    def test_attributes_by_name(self):
        for name, names in told_classes():
            with self.subTest(name):
                values = {attribute: object() for attribute in reversed(names)}
                error = getattr(errors, name)(**values)
                for attribute, value in values.items():
                    self.assertIs(getattr(error, attribute), value)

    def test_too_few_values_are_refused(self):
        for name, names in told_classes():
            if names:
                with self.subTest(name), self.assertRaises(TypeError):
                    getattr(errors, name)(*names[1:])

    def test_no_error_is_caught_as_another(self):
        for name, names in told_classes():
            for other, _ in told_classes():
                if name != other:
                    self.assertNotIsInstance(getattr(errors, name)(*names), getattr(errors, other))

    def test_an_attribute_bears_the_very_thing(self):
        thing = [1, 2]
        self.assertIs(BadNumber(thing).thing, thing)

    def test_equal_by_class_and_attributes(self):
        self.assertTrue(BadPlant("a", 1) == BadPlant(what="a", at=1))
        self.assertFalse(BadPlant("a", 1) != BadPlant("a", 1))
        self.assertTrue(MixedFields() == MixedFields())
        for other in (BadPlant("a", 2), BadPlant("b", 1), BadRow("a"), ("a", 1), None):
            self.assertFalse(BadPlant("a", 1) == other)
            self.assertTrue(BadPlant("a", 1) != other)
        self.assertTrue(BadRow("x") != BadTable("x"))
        self.assertTrue(MixedFields() != NoFit())
        self.assertTrue(Quarrel(((1, 1),)) == Quarrel(((1, 1),)))

    def test_each_attribute_counts_for_equality(self):
        for name, names in told_classes():
            told = getattr(errors, name)
            self.assertTrue(told(*range(len(names))) == told(*range(len(names))))
            for place in range(len(names)):
                values = list(range(len(names)))
                values[place] = 9
                self.assertTrue(told(*values) != told(*range(len(names))), name)
                self.assertTrue(told(*range(len(names))) != told(*values), name)


if __name__ == "__main__":
    unittest.main()
