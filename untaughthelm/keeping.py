"""Boxes that are kept whatever the plant is, and proofs that a box is lost."""

from untaughthelm.boxes import Keeper
from untaughthelm.cuts import HIGH, LOW, Cut, Cutter, at_full_size, bound_space
from untaughthelm.programs import least_point
from untaughthelm.ratios import ONE, ZERO, greatest_ratio, ratio_minus, ratio_negative, ratio_over, ratio_plus
from untaughthelm.ratios import ratio_times
from untaughthelm.rows import row_plus, row_times, unit_row, zero_row


class Blow:
    """A plant that agrees with a lot and leads this state beyond this side of the box, where it can."""

    def __init__(self, lot, plant, state, side):
        self.lot = lot
        self.plant = plant
        self.state = state
        self.side = side

    def __eq__(self, other):
        return (isinstance(other, Blow) and self.lot == other.lot and self.plant == other.plant
                and self.state == other.state and self.side == other.side)


class Stop:
    """A bound of the inputs: its place and its side."""

    def __init__(self, place, side):
        self.place = place
        self.side = side

    def __eq__(self, other):
        return isinstance(other, Stop) and self.place == other.place and self.side == other.side


class Lost:
    """A corner without a safe input: no input keeps all half spaces of the blows, as the weights prove."""

    def __init__(self, corner, blows, weights):
        self.corner = corner
        self.blows = blows
        self.weights = weights

    def __eq__(self, other):
        return (isinstance(other, Lost) and self.corner == other.corner and self.blows == other.blows
                and self.weights == other.weights)


def keep(fit, box, bounds):
    """Return a Keeper of the box, or a Lost for the least corner without a safe input."""
    cutter = Cutter(fit, box, bounds)
    stops = _stops(bounds)
    inputs = []
    for digits in box.corners():
        told, cuts = _last_try(cutter, stops, box.corner(digits))
        if told.point[-1][0] > 0:
            return _lost(cutter, digits, stops, cuts, told)
        inputs.append(told.point[:-1])
    return Keeper(box, tuple(inputs))


def _stops(bounds):
    # Couples of a Stop and its half space, for each bound that there is.
    told = [(Stop(place, word), bound_space(bounds, place, side))
            for place in range(bounds.inputs) for side, word in ((LOW, "low"), (HIGH, "high"))]
    return [(stop, space) for stop, space in told if space is not None]


def _last_try(cutter, stops, x):
    # The try of _best_try that breaks nothing any more, or for which nothing is left, and its cuts.
    cuts = []
    while True:
        told = _best_try(cutter, stops, cuts, x)
        lost = told.point[-1][0] > 0
        broken = [] if lost else cutter.broken_by_point(x, (ONE,) + told.point[:-1])
        if broken == []:
            return told, cuts
        cuts.extend(broken)


def _best_try(cutter, stops, cuts, x):
    # The Optimum whose point is the input that is let and stays the furthest from the cuts at the
    # corner x, or breaks them the least. Behind it stands by how much: above 0 if it breaks any.
    many = cutter.fit.record.inputs
    slack = unit_row(many + 1, many)
    spaces = [(parts + (ZERO,), end) for _, (parts, end) in stops]
    for cut in cuts:
        parts, end = at_full_size(cutter.half_space(cut, x))
        spaces.append((parts + ((-1, 1),), end))
    spaces.append((row_times(cutter.field, (-1, 1), slack), ONE))
    return least_point(slack, spaces)


def _lost(cutter, digits, stops, cuts, told):
    # The weights of the try, divided by what it breaks, prove that no input keeps the half spaces.
    x = cutter.box.corner(digits)
    weights = [ratio_over(weight, told.point[-1]) for weight in told.weights]
    far = _far_enough(cutter, cuts, weights[len(stops):])
    entries = list(stops)
    for cut in cuts:
        for plain in _without_ray(cutter.field, cut, far):
            entries.append((_blow(plain), at_full_size(cutter.half_space(plain, x))))
    proof = least_point(zero_row(cutter.fit.record.inputs), [space for blow, space in entries])
    used = [(blow, weight) for (blow, space), weight in zip(entries, proof.weights) if weight != ZERO]
    return Lost(digits, tuple([blow for blow, weight in used]), tuple([weight for blow, weight in used]))


def _far_enough(cutter, cuts, weights):
    # So far along the rays two plants in the place of each take less than 1 from what the weights prove.
    far = ONE
    for cut, weight in zip(cuts, weights):
        if cut.ray is not None:
            state = cut.state
            room = ratio_minus(cutter.box.high[state], cutter.box.low[state])
            room = ratio_minus(room, ratio_times((2, 1), cutter.fit.pushes[state]))
            far = ratio_plus(far, ratio_times(weight, greatest_ratio((room, ZERO))))
    return far


def _without_ray(field, cut, far):
    # The same half space, or nearly so, by plants alone.
    if cut.ray is None:
        return [cut]
    row = row_plus(field, cut.row, row_times(field, far, cut.ray))
    return [Cut(cut.agreeing, cut.state, row, None, cut.side),
            Cut(cut.agreeing, cut.state, cut.row, None, ratio_negative(cut.side))]


def _blow(cut):
    plant = cut.agreeing.plant(cut.state, cut.row)
    return Blow(cut.agreeing.lot, plant, cut.state, "high" if cut.side == HIGH else "low")
