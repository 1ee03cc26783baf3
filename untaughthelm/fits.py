"""Fits: what disturbed records, some rows of which may be wrong, tell of a plant over the fractions."""

from untaughthelm.errors import BadFit, BadLot, NoFit, NoState
from untaughthelm.fields import Field, check_row, same_field
from untaughthelm.plants import plant_of_rows
from untaughthelm.programs import Program, Unbounded, keeps
from untaughthelm.ratios import compare_ratios, is_ratio, is_sequence, is_whole, ratio_minus, ratio_negative
from untaughthelm.ratios import ratio_plus
from untaughthelm.rows import dot, row_times

_MOST_PRIORS = 6


class Prior:
    """The parts times the plant row of this state lie from low to high; None is no bound."""

    def __init__(self, state, parts, low, high):
        self.state = state
        self.parts = parts
        self.low = low
        self.high = high

    def __eq__(self, other):
        return (isinstance(other, Prior) and self.state == other.state and self.parts == other.parts
                and self.low == other.low and self.high == other.high)


class Fit:
    """A record whose replies were pushed, priors, and how many rows of the record may be wrong."""

    def __init__(self, record, pushes, priors=(), wrong=0):
        same_field(record.field, Field())
        if not _are_pushes(pushes, record.size):
            raise BadFit("pushes")
        if not is_sequence(priors, 0, _MOST_PRIORS) or not all([_is_prior(prior, record) for prior in priors]):
            raise BadFit("priors")
        if not is_whole(wrong, 0, 2):
            raise BadFit("wrong")
        if len(record) > (6 if wrong == 0 else 4):
            raise BadFit("many")
        self.record = record
        self.pushes = tuple(pushes)
        self.priors = tuple([Prior(prior.state, tuple(prior.parts), prior.low, prior.high) for prior in priors])
        self.wrong = wrong

    def __eq__(self, other):
        return (isinstance(other, Fit) and self.record == other.record and self.pushes == other.pushes
                and self.priors == other.priors and self.wrong == other.wrong)


class End:
    """The least or greatest value, and a plant that agrees with the lot and has it.

    If there is none, the value is None and the ray leads from the plant to ever further ones.
    """

    def __init__(self, value, lot, plant, ray):
        self.value = value
        self.lot = lot
        self.plant = plant
        self.ray = ray

    def __eq__(self, other):
        return (isinstance(other, End) and self.value == other.value and self.lot == other.lot
                and self.plant == other.plant and self.ray == other.ray)


class Ends:
    """The two ends of what the plants that agree lead to."""

    def __init__(self, low, high):
        self.low = low
        self.high = high

    def __eq__(self, other):
        return isinstance(other, Ends) and self.low == other.low and self.high == other.high


class Agreeing:
    """The plants that agree with a lot: for each state a program whose points are the plant rows.

    rows has one of these for each state; it is None if there are none.
    """

    def __init__(self, fit, lot):
        self.lot = lot
        self.record = fit.record
        # The states bind each a plant row of their own, so they are asked one by one.
        self.programs = [Program(fit.record.size + fit.record.inputs, row_constraints(fit, lot, state))
                         for state in range(fit.record.size)]
        agree = all([program.infeasible is None for program in self.programs])
        self.rows = [program.last_point() for program in self.programs] if agree else None

    def plant(self, state=None, row=None):
        """Return one of the plants, with this plant row of the state if one is told."""
        rows = [row if place == state else other for place, other in enumerate(self.rows)]
        return plant_of_rows(self.record.field, self.record.size, rows)


def list_lots(fit):
    """Return the lots with which at least one plant agrees, ascending."""
    return tuple([agreeing.lot for agreeing in all_agreeing(fit)])


def lot_of(fit, plant):
    """Return the least lot with which the plant agrees, None if there is none."""
    same_field(fit.record.field, plant.field)
    for lot in all_lots(fit):
        if agrees_with(fit, lot, plant):
            return lot
    return None


def some_plant(fit, lot):
    """Return a plant that agrees with the lot."""
    # Among whole numbers, True would pass for 1.
    if is_sequence(lot) and all([is_whole(place) for place in lot]):
        for agreeing in all_agreeing(fit):
            if agreeing.lot == tuple(lot):
                return agreeing.plant()
    raise BadLot(lot)


def find_ends(fit, state, x, u):
    """Return the Ends of the state's part of the reply to (x, u) among all plants that agree."""
    record = fit.record
    if not is_whole(state, 0, record.size - 1):
        raise NoState(state)
    check_row(record.field, "x", x, record.size)
    check_row(record.field, "u", u, record.inputs)
    told = all_agreeing(fit)
    if told == []:
        raise NoFit()
    z = tuple(x) + tuple(u)
    high = _least_end(told, state, row_times(record.field, (-1, 1), z))
    if high.value is not None:
        high = End(ratio_negative(high.value), high.lot, high.plant, None)
    return Ends(_least_end(told, state, z), high)


def all_lots(fit):
    """Return all lots of as many rows as may be wrong, ascending."""
    many = len(fit.record)
    return _lots_from(0, many, min(fit.wrong, many))


def agrees_with(fit, lot, plant):
    """Return whether the plant agrees with the lot."""
    return all([keeps(plant.a[state] + plant.b[state], row_constraints(fit, lot, state))
                for state in range(fit.record.size)])


def all_agreeing(fit):
    """Return the Agreeing of each lot with which a plant agrees, ascending."""
    told = [Agreeing(fit, lot) for lot in all_lots(fit)]
    return [agreeing for agreeing in told if agreeing.rows is not None]


def row_constraints(fit, lot, state):
    """Return what binds the plant row of the state if a plant agrees with the lot, as constraints of a program."""
    field = fit.record.field
    push = fit.pushes[state]
    told = []
    for place, (x, u, y) in enumerate(fit.record.rows):
        if place not in lot:
            z = x + u
            told.append((z, ratio_plus(y[state], push)))
            told.append((row_times(field, (-1, 1), z), ratio_minus(push, y[state])))
    for prior in fit.priors:
        if prior.state == state and prior.high is not None:
            told.append((prior.parts, prior.high))
        if prior.state == state and prior.low is not None:
            told.append((row_times(field, (-1, 1), prior.parts), ratio_negative(prior.low)))
    return told


def _lots_from(low, high, many):
    if many == 0:
        return ((),)
    return tuple([(place,) + lot for place in range(low, high) for lot in _lots_from(place + 1, high, many - 1)])


def _least_end(told, state, costs):
    # The End of the least value of the costs times the state's plant row.
    best = None
    for agreeing in told:
        found = agreeing.programs[state].cheapest(costs)
        plant = agreeing.plant(state, found.point)
        if isinstance(found, Unbounded):
            return End(None, agreeing.lot, plant, found.ray)
        value = dot(plant.field, costs, found.point)
        if best is None or compare_ratios(value, best.value) < 0:
            best = End(value, agreeing.lot, plant, None)
    return best


def _are_pushes(pushes, size):
    field = Field()
    return field.holds_row(pushes, size) and all([push[0] >= 0 for push in pushes])


def _is_prior(prior, record):
    if not isinstance(prior, Prior) or not is_whole(prior.state, 0, record.size - 1):
        return False
    if not record.field.holds_row(prior.parts, record.size + record.inputs):
        return False
    ends = [end for end in (prior.low, prior.high) if end is not None]
    if not all([is_ratio(end) for end in ends]):
        return False
    return len(ends) < 2 or compare_ratios(prior.low, prior.high) <= 0
