"""Foes who build, input by input, a plant with one input on which late replies cost every program time."""

from untaughthelm.errors import BadFoe
from untaughthelm.fields import check_row, holds_rows
from untaughthelm.plants import Plant, plant_plus
from untaughthelm.ratios import is_whole
from untaughthelm.reaches import uncontrolled
from untaughthelm.rows import as_table, row_minus, row_of_rows, row_times, turned, unit_row, zero_row
from untaughthelm.spans import Span


class LateFoe:
    """A plant with one input, as the inputs put so far make it."""

    def __init__(self, field, size, late, puts=()):
        if not is_whole(size, 1, 4):
            raise BadFoe("size")
        if not is_whole(late, 0, 6):
            raise BadFoe("late")
        if not holds_rows(field, puts, 1):
            raise BadFoe("puts")
        self.field = field
        self.size = size
        self.late = late
        self.puts = as_table(puts)
        self._tie = self._first_tie()
        many = len(puts) - late + 1
        self.shown = self.plant().run(self.start(), self.puts[:many - 1]) if many > 0 else ()
        self.rows = tuple(zip(self.shown, self.puts, self.shown[1:]))
        self._span = Span(field, size + 1, [x + u for x, u, y in self.rows])
        self.rank = self._span.rank

    def __eq__(self, other):
        return (isinstance(other, LateFoe) and self.field == other.field and self.size == other.size
                and self.late == other.late and self.puts == other.puts)

    def put(self, u):
        """Return the LateFoe with the input u put behind the others."""
        check_row(self.field, "u", u, 1)
        return LateFoe(self.field, self.size, self.late, self.puts + (u,))

    def tie(self):
        """Return the first tick whose next inputs are a sum of those of the ticks before, and the sum's weights."""
        return self._tie

    def start(self):
        """Return the state that the plant starts from."""
        return unit_row(self.size, 0) if self._tie[0] > 0 else zero_row(self.size)

    def plant(self):
        """Return the plant as it stands."""
        tick, weights = self._tie
        images = [unit_row(self.size, (place + 1) % self.size) for place in range(self.size)]
        if tick > 0:
            images[tick - 1] = weights + zero_row(self.size - tick)
        b = unit_row(self.size, tick % self.size)
        # Less this law of the state times b, so that the first inputs change nothing of the images.
        fed_back = [self._put_at(place)[0] for place in range(tick)] + list(zero_row(self.size - tick))
        columns = [row_minus(self.field, image, row_times(self.field, number, b))
                   for image, number in zip(images, fed_back)]
        return Plant(self.field, turned(columns), turned([b]))

    def unlike(self):
        """Return another plant that gives all rows heard, None if there is none."""
        if self.rank == self.size + 1:
            return None
        row = self._span.silent_rows()[0]
        nearest = plant_plus(self.plant(), row)
        other = nearest
        many = 1
        while uncontrolled(other) is not None:
            many += 1
            if many == self.field.prime:
                return nearest
            other = plant_plus(other, row)
        return other

    def _first_tie(self):
        # The next inputs are a row of `width` numbers, so at tick `width` at the latest they are a sum.
        width = min(self.late, self.size)
        if width == 0:
            return 0, ()
        span = Span(self.field, width)
        following = self._following(0, width)
        while span.is_new(following):
            span = span.with_row(following)
            following = self._following(len(span.rows), width)
        return len(span.rows), span.weights(following)

    def _following(self, tick, width):
        return row_of_rows([self._put_at(tick + ahead) for ahead in range(width)])

    def _put_at(self, tick):
        return self.puts[tick] if tick < len(self.puts) else zero_row(1)
