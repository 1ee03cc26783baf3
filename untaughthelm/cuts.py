"""Half spaces that every safe input keeps, each told by a plant that agrees with a Fit."""

from untaughthelm.errors import BadBounds, BadBox, NoFit
from untaughthelm.fits import all_agreeing
from untaughthelm.programs import Unbounded
from untaughthelm.ratios import ONE, ZERO, compare_ratios, ratio_minus, ratio_negative, ratio_times
from untaughthelm.rows import dot, row_times, unit_row

HIGH = (1, 1)
LOW = (-1, 1)


class Cut:
    """A plant row of a state, of an Agreeing, that must not lead beyond the box on this side, HIGH or LOW.

    If the ray is not None, the row must not lead any further along it.
    """

    def __init__(self, agreeing, state, row, ray, side):
        self.agreeing = agreeing
        self.state = state
        self.row = row
        self.ray = ray
        self.side = side


class Cutter:
    """Finds what inputs at the corners of a box break, or of a box that is q times as large.

    A point is q with the input behind it. So is a direction of points: it breaks a cut if it
    leads ever further beyond.
    """

    def __init__(self, fit, box, bounds):
        if box.size != fit.record.size:
            raise BadBox("size")
        if bounds.inputs != fit.record.inputs:
            raise BadBounds("size")
        self.told = all_agreeing(fit)
        if self.told == []:
            raise NoFit()
        self.fit = fit
        self.box = box
        self.field = fit.record.field
        # What was found at any corner is looked through first, as to seek anew is dear.
        self.found = []

    def half_space(self, cut, x):
        """Return the cut at the corner x as a constraint of the points."""
        if cut.ray is None:
            return row_space(self.fit, self.box, x, cut.state, cut.row, cut.side)
        return _row_of_points(self.field, x, cut.ray, ZERO, cut.side), ZERO

    def broken_by_point(self, x, point):
        """Return cuts at the corner x that the point breaks; none if it breaks no cut at all."""
        return self._broken(x, point, ONE)

    def broken_by_direction(self, x, direction):
        """Return cuts at the corner x that the direction breaks; none if it breaks no cut at all."""
        return self._broken(x, direction, ZERO)

    def _broken(self, x, point, share):
        # The ends count for points alone: the share is 1 for them and 0 for directions.
        broken = [cut for cut in self.found if self._is_broken(cut, x, point, share)]
        return self._seek(x, point, share) if broken == [] else broken

    def _seek(self, x, point, share):
        z = row_times(self.field, point[0], x) + point[1:]
        broken = []
        for agreeing in self.told:
            for state, program in enumerate(agreeing.programs):
                for side in (HIGH, LOW):
                    # The plant row that leads furthest out on this side.
                    other_side = ratio_negative(side)
                    found = program.cheapest(row_times(self.field, other_side, z))
                    ray = found.ray if isinstance(found, Unbounded) else None
                    cut = Cut(agreeing, state, found.point, ray, side)
                    if self._is_broken(cut, x, point, share):
                        broken.append(cut)
                        self.found.extend([cut, Cut(agreeing, state, found.point, ray, other_side)])
        return broken

    def _is_broken(self, cut, x, point, share):
        parts, end = self.half_space(cut, x)
        return compare_ratios(dot(self.field, parts, point), ratio_times(share, end)) > 0


def row_space(fit, box, x, state, row, side):
    """Return what keeps a plant row of a state inside the box at the corner x, as a constraint of the points."""
    edge = box.high[state] if side == HIGH else box.low[state]
    return _row_of_points(fit.record.field, x, row, edge, side), ratio_negative(fit.pushes[state])


def bound_space(bounds, place, side):
    """Return what a bound asks of the inputs, as a constraint; None if there is no bound."""
    end = bounds.high[place] if side == HIGH else bounds.low[place]
    if end is None:
        return None
    return tuple([ratio_times(side, part) for part in unit_row(bounds.inputs, place)]), ratio_times(side, end)


def at_full_size(space):
    """Return a constraint of the points as one of the inputs, for a q of 1."""
    parts, end = space
    return parts[1:], ratio_minus(end, parts[0])


def _row_of_points(field, x, row, edge, side):
    size = len(x)
    lead = ratio_minus(dot(field, row[:size], x), edge)
    return row_times(field, side, (lead,) + row[size:])
