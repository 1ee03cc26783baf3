"""What the document says of all classes of one kind."""


def check_result(case, told, names):
    """A result keeps the very things that it is given, and is equal by all its attributes."""
    values = [[name] for name in names]
    made = told(*values)
    for name, value in zip(names, values):
        case.assertIs(getattr(made, name), value)
    named = told(**dict(zip(names, values)))
    for name, value in zip(names, values):
        case.assertIs(getattr(named, name), value)
    check_equal(case, made, named)
    check_equal(case, made, told(*[list(value) for value in values]))
    for place in range(len(names)):
        others = list(values)
        others[place] = "another"
        check_unlike(case, made, told(*others))
    check_unlike(case, made, *other_things(values))


def check_equal(case, one, *others):
    for other in others:
        case.assertTrue(one == other)
        case.assertTrue(other == one)
        case.assertFalse(one != other)
        case.assertFalse(other != one)


def check_unlike(case, one, *others):
    for other in others:
        case.assertFalse(one == other)
        case.assertFalse(other == one)
        case.assertTrue(one != other)
        case.assertTrue(other != one)


def other_things(values=()):
    """Things of other classes, one that has any attribute at all among them."""
    return (None, 0, "", tuple(values), list(values), Anything())


class Anything:
    """It has every attribute, with one value."""

    def __getattr__(self, name):
        if name.startswith("__"):
            raise AttributeError(name)
        return "anything"


def check_all_unlike(case, things):
    """Each thing is equal to itself alone, and to no thing of another class."""
    for place, one in enumerate(things):
        check_equal(case, one, one)
        check_unlike(case, one, *[other for at, other in enumerate(things) if at != place])
        check_unlike(case, one, *other_things())
