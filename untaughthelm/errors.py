"""The errors of the package, each directly under HelmError."""


class HelmError(ValueError):
    """What all errors of the package stand under; told are the values that one was created with."""

    def __init__(self, *told):
        self.told = told

    def __eq__(self, other):
        return isinstance(other, HelmError) and type(self) is type(other) and self.told == other.told


class BadField(HelmError):
    """A field is asked for by what is neither None nor a prime from 2 to 97."""

    def __init__(self, prime):
        super().__init__(prime)
        self.prime = prime


class BadNumber(HelmError):
    """A thing stands where a number, or a part or the text of one, belongs."""

    def __init__(self, thing):
        super().__init__(thing)
        self.thing = thing


class MixedFields(HelmError):
    """Objects of unlike fields meet in one call."""


class BadText(HelmError):
    """A text does not tell what it should; place says which part is wrong."""

    def __init__(self, place):
        super().__init__(place)
        self.place = place


class BadTable(HelmError):
    """A table, or the width of one, has not the shape that it needs."""

    def __init__(self, what):
        super().__init__(what)
        self.what = what


class BadRow(HelmError):
    """A state, an input or a reply is no row of as many numbers of the field."""

    def __init__(self, what):
        super().__init__(what)
        self.what = what


class BadPlant(HelmError):
    """The tables do not make a plant; at says which row is wrong."""

    def __init__(self, what, at):
        super().__init__(what, at)
        self.what = what
        self.at = at


class BadTicks(HelmError):
    """A number of ticks is no whole number from 0 to 60."""

    def __init__(self, ticks):
        super().__init__(ticks)
        self.ticks = ticks


class BadRecord(HelmError):
    """The things told do not make a record, or not one that fits the call."""

    def __init__(self, what):
        super().__init__(what)
        self.what = what


class BadCut(HelmError):
    """A record has no rows from low to high."""

    def __init__(self, low, high):
        super().__init__(low, high)
        self.low = low
        self.high = high


class BadLot(HelmError):
    """A lot does not name places of rows in ascending order."""

    def __init__(self, lot):
        super().__init__(lot)
        self.lot = lot


class NoFit(HelmError):
    """No plant fits."""


class BadWrong(HelmError):
    """A number of wrong rows is no whole number from 0 to 2."""

    def __init__(self, wrong):
        super().__init__(wrong)
        self.wrong = wrong


class BadAsker(HelmError):
    """The things told do not make a program that asks."""

    def __init__(self, what):
        super().__init__(what)
        self.what = what


class Quarrel(HelmError):
    """With these weights the rows add up to zero, but their replies do not."""

    def __init__(self, weights):
        super().__init__(weights)
        self.weights = weights


class NotShown(HelmError):
    """A state is shown, or is not shown, against the lateness of the replies."""

    def __init__(self, tick):
        super().__init__(tick)
        self.tick = tick


class BadAhead(HelmError):
    """Inputs that are written ahead are told in a wrong way."""

    def __init__(self, what):
        super().__init__(what)
        self.what = what


class BadLine(HelmError):
    """The things told do not make a line."""

    def __init__(self, what):
        super().__init__(what)
        self.what = what


class BadSamples(HelmError):
    """Samples of outputs and inputs are told in a wrong way."""

    def __init__(self, what):
        super().__init__(what)
        self.what = what


class BadReacher(HelmError):
    """The things told do not make a Reacher."""

    def __init__(self, what):
        super().__init__(what)
        self.what = what


class NothingPut(HelmError):
    """A reply is told though no input was put."""


class BadFoe(HelmError):
    """The things told do not make a foe."""

    def __init__(self, what):
        super().__init__(what)
        self.what = what


class TooSmall(HelmError):
    """A foe needs more rests than this prime has."""

    def __init__(self, prime):
        super().__init__(prime)
        self.prime = prime


class BadProgram(HelmError):
    """A linear program is wrong; at is the number of the constraint, or None."""

    def __init__(self, what, at):
        super().__init__(what, at)
        self.what = what
        self.at = at


class BadFit(HelmError):
    """The things told do not make a Fit."""

    def __init__(self, what):
        super().__init__(what)
        self.what = what


class NoState(HelmError):
    """A plant has no state of this number."""

    def __init__(self, state):
        super().__init__(state)
        self.state = state


class BadBox(HelmError):
    """The ends do not make a box, or not one that fits the call."""

    def __init__(self, what):
        super().__init__(what)
        self.what = what


class BadBounds(HelmError):
    """The ends do not bound inputs, or not those of the call."""

    def __init__(self, what):
        super().__init__(what)
        self.what = what


class Outside(HelmError):
    """A box does not hold a state; state is the first place that leaves it."""

    def __init__(self, state):
        super().__init__(state)
        self.state = state


class BadSchedule(HelmError):
    """A schedule of plants and pushes is wrong at this couple."""

    def __init__(self, what, at):
        super().__init__(what, at)
        self.what = what
        self.at = at


class BadChanger(HelmError):
    """The things told do not make a Changer."""

    def __init__(self, what):
        super().__init__(what)
        self.what = what


class BadDesk(HelmError):
    """The things told do not make a desk."""

    def __init__(self, what):
        super().__init__(what)
        self.what = what


class BadDeed(HelmError):
    """A desk is asked for a deed that it does not know, or by a wrong thing."""

    def __init__(self, what):
        super().__init__(what)
        self.what = what


class NoPlant(HelmError):
    """A desk has no plant that it could run."""


class NoRun(HelmError):
    """A desk has no run."""


class NoDuty(HelmError):
    """A desk has no program on duty."""


class LongRun(HelmError):
    """A run of a desk would pass its last tick."""


class Idle(HelmError):
    """The program on duty puts nothing."""


class NoDeed(HelmError):
    """A desk has no deed that it could take back."""
