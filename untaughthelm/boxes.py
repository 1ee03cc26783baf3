"""Boxes of states, bounds of inputs, and programs that mix the inputs of a box's corners."""

from untaughthelm.errors import BadBounds, BadBox, Outside
from untaughthelm.fields import Field, check_row
from untaughthelm.ratios import ONE, compare_ratios, is_ratio, is_sequence, ratio_minus, ratio_over, ratio_times
from untaughthelm.rows import row_table


class Box:
    """All states from low to high, place by place, the ends among them."""

    def __init__(self, low, high):
        field = Field()
        if not is_sequence(low, 1, 4) or not field.holds_row(low, len(low)):
            raise BadBox("low")
        if not field.holds_row(high, len(low)):
            raise BadBox("high")
        if not all([compare_ratios(least, most) < 0 for least, most in zip(low, high)]):
            raise BadBox("order")
        self.low = tuple(low)
        self.high = tuple(high)
        self.size = len(low)

    def __eq__(self, other):
        return isinstance(other, Box) and self.low == other.low and self.high == other.high

    def corners(self):
        """Return the digits of all corners, ascending: 0 for low and 1 for high."""
        corners = [()]
        for _ in range(self.size):
            corners = [digits + (digit,) for digits in corners for digit in (0, 1)]
        return tuple(corners)

    def corner(self, digits):
        """Return the state of the corner of these digits."""
        return tuple([least if digit == 0 else most for least, most, digit in zip(self.low, self.high, digits)])

    def holds(self, x):
        """Return whether the state x is in the box."""
        return _first_outside(self.low, self.high, x) is None


class Bounds:
    """All inputs from low to high, place by place, the ends among them; None is no bound."""

    def __init__(self, low, high):
        if not is_sequence(low, 1, 3) or not _are_bounds(low):
            raise BadBounds("low")
        if not is_sequence(high, len(low), len(low)) or not _are_bounds(high):
            raise BadBounds("high")
        if not all([_is_low_enough(least, most) for least, most in zip(low, high)]):
            raise BadBounds("order")
        self.low = tuple(low)
        self.high = tuple(high)
        self.inputs = len(low)

    def __eq__(self, other):
        return isinstance(other, Bounds) and self.low == other.low and self.high == other.high

    def holds(self, u):
        """Return whether the input u is let."""
        return _first_outside(self.low, self.high, u) is None


class Keeper:
    """A program that keeps a state in its box: an input for each corner, in the order of the corners."""

    def __init__(self, box, inputs):
        self.box = box
        self.inputs = inputs

    def __eq__(self, other):
        return isinstance(other, Keeper) and self.box == other.box and self.inputs == other.inputs

    def choose(self, x):
        """Return the input at the state x: the inputs of the corners, mixed as the corners mix to x."""
        field = Field()
        check_row(field, "x", x, self.box.size)
        outside = _first_outside(self.box.low, self.box.high, x)
        if outside is not None:
            raise Outside(outside)
        weights = [ONE]
        for number, least, most in zip(x, self.box.low, self.box.high):
            share = ratio_over(ratio_minus(number, least), ratio_minus(most, least))
            shares = (ratio_minus(ONE, share), share)
            # As the corners stand: the digit of the last state changes first.
            weights = [ratio_times(weight, part) for weight in weights for part in shares]
        return row_table(field, weights, self.inputs)


def _first_outside(low, high, row):
    # The first place at which the row is below low or above high, None if it is between them.
    for place, number in enumerate(row):
        if not (_is_low_enough(low[place], number) and _is_low_enough(number, high[place])):
            return place
    return None


def _is_low_enough(least, most):
    return least is None or most is None or compare_ratios(least, most) <= 0


def _are_bounds(ends):
    return all([end is None or is_ratio(end) for end in ends])
