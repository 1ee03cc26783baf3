"""Elimination in whole numbers over one common bottom, so that no number has to be shortened on the way."""

from math import gcd

from untaughthelm.ratios import common_bottom, whole_times
from untaughthelm.rows import unit_row


class Echelon:
    """Rows that were each new beside those before, and their reduced echelon rows. It never changes."""

    def __init__(self, field, width):
        self.field = field
        self.width = width
        self._stand(1, (), ())

    def with_new(self, row):
        """Return the Echelon with this row, too, None if the row is not new."""
        whole, top, bottom = _whole_row(row)
        long = self._left(whole)
        lead = self._lead_of(long)
        if lead is None:
            return None
        larger = Echelon(self.field, self.width)
        new_bottom, long = self._with_lead(long + [self._bottom], lead)
        reduced = [(place, self._cleared(other + [0], lead, long)) for place, other in self._reduced]
        reduced = sorted(reduced + [(lead, long)], key=lambda couple: couple[0])
        larger._stand(new_bottom, tuple(reduced), self._scales + ((top, bottom),))
        return larger

    def is_new(self, row):
        """Return whether the row is no sum of multiples of the rows."""
        return self._lead_of(self._left(_whole_row(row)[0])) is not None

    def weights(self, row):
        """Return None if the row is new, otherwise the number for each of the rows with which they add up to it."""
        whole, top, bottom = _whole_row(row)
        long = self._left(whole)
        if self._lead_of(long) is not None:
            return None
        return tuple([self.field.number(-number * top * row_bottom, bottom * row_top * self._bottom)
                      for number, (row_top, row_bottom) in zip(long[self.width:], self._scales)])

    def reduced_rows(self):
        """Return the reduced echelon rows."""
        return tuple([tuple([self._number(number) for number in long[:self.width]]) for _, long in self._reduced])

    def silent_rows(self):
        """Return a basis of all rows whose dot with each of the rows is 0."""
        leads = [lead for lead, _ in self._reduced]
        return tuple([self._silent_row(place) for place in range(self.width) if place not in leads])

    def _stand(self, bottom, reduced, scales):
        # Couples of a leading place and a reduced row in whole numbers over the bottom, by ascending
        # place. Behind each row stand the weights with which the rows, made whole, add up to it.
        self._bottom = bottom
        self._reduced = reduced
        # What each row, made whole, must be multiplied by: couples of a top and a bottom.
        self._scales = scales
        self.rank = len(reduced)

    def _silent_row(self, free):
        row = list(unit_row(self.width, free))
        for lead, long in self._reduced:
            row[lead] = self._number(-long[free])
        return tuple(row)

    def _number(self, top):
        return self.field.number(top, self._bottom)

    def _rests(self, row):
        return row if self.field.prime is None else [number % self.field.prime for number in row]

    def _left(self, whole):
        # The bottom times a row, less what the reduced rows tell of it.
        long = [self._bottom * number for number in whole] + [0] * self.rank
        for lead, other in self._reduced:
            if whole[lead] != 0:
                long = [number - whole[lead] * part for number, part in zip(long, other)]
        return self._rests(long)

    def _lead_of(self, long):
        for place in range(self.width):
            if long[place] != 0:
                return place
        return None

    def _with_lead(self, long, lead):
        # The bottom that a new row brings, and the row over this bottom: by rests the bottom stays 1.
        if self.field.prime is None:
            return abs(long[lead]), long if long[lead] > 0 else [-number for number in long]
        factor = self.field.over((1, 1), (long[lead], 1))[0]
        return 1, self._rests([number * factor for number in long])

    def _cleared(self, other, lead, long):
        # A reduced row over the new row's bottom, and 0 at its leading place. The division leaves no
        # rest, as over the bottom all numbers are determinants.
        factor = other[lead]
        return self._rests([(number * long[lead] - factor * part) // self._bottom for number, part in zip(other, long)])


def _whole_row(row):
    # The row in whole numbers without a common divisor, and the top and the bottom that it is to be multiplied by.
    bottom = common_bottom(row)
    whole = [whole_times(number, bottom) for number in row]
    top = 0
    for number in whole:
        top = gcd(top, number)
    if top < 2:
        return whole, 1, bottom
    return [number // top for number in whole], top, bottom
