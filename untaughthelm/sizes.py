"""How many times as large, or as small, a box may be that it is still kept."""

from untaughthelm.cuts import HIGH, LOW, Cutter, bound_space
from untaughthelm.programs import Infeasible, Unbounded, least_point
from untaughthelm.ratios import ZERO, ratio_negative
from untaughthelm.rows import row_times, unit_row


class Sizes:
    """The least and the greatest size at which a box is kept; the greatest is None if there is none."""

    def __init__(self, least, greatest):
        self.least = least
        self.greatest = greatest

    def __eq__(self, other):
        return isinstance(other, Sizes) and self.least == other.least and self.greatest == other.greatest


def kept_sizes(fit, box, bounds):
    """Return the Sizes at which the box is kept, None if there are none."""
    cutter = Cutter(fit, box, bounds)
    spaces = [bound_space(bounds, place, side) for place in range(bounds.inputs) for side in (LOW, HIGH)]
    stops = [((ZERO,) + space[0], space[1]) for space in spaces if space is not None]
    least = ZERO
    greatest = None
    for digits in box.corners():
        x = box.corner(digits)
        # Sizes that the corners before this one do not let are of no use.
        asked = stops + _from_to(bounds.inputs, least, greatest)
        least = _last_size(cutter, x, asked, LOW)
        if least is None:
            return None
        greatest = _last_size(cutter, x, asked, HIGH)
    return Sizes(least, greatest)


def _from_to(inputs, least, greatest):
    size = unit_row(inputs + 1, 0)
    told = [(tuple([(-part[0], part[1]) for part in size]), ratio_negative(least))]
    if greatest is not None:
        told.append((size, greatest))
    return told


def _last_size(cutter, x, asked, side):
    # The last size on this side at which the corner x has a safe input that keeps what is asked,
    # None if there is no such input, or no last size.
    costs = row_times(cutter.field, ratio_negative(side), unit_row(cutter.fit.record.inputs + 1, 0))
    cuts = []
    while True:
        told = least_point(costs, asked + [cutter.half_space(cut, x) for cut in cuts])
        if isinstance(told, Infeasible):
            return None
        if isinstance(told, Unbounded):
            broken = cutter.broken_by_direction(x, told.ray)
        else:
            broken = cutter.broken_by_point(x, told.point)
        if broken == []:
            return None if isinstance(told, Unbounded) else told.point[0]
        cuts.extend(broken)
