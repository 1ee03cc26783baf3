"""What a record tells of the plants that fit it: replies that are sure, and unlike plants where they are not."""

from untaughthelm.errors import NoFit
from untaughthelm.fields import same_field
from untaughthelm.plants import plant_of_rows, plant_plus
from untaughthelm.ratios import ONE, ZERO
from untaughthelm.records import check_sizes, sum_of_replies
from untaughthelm.rows import dot, row_times, zero_row
from untaughthelm.spans import solve


def missed(record, plant):
    """Return the places of the rows that the plant does not fit."""
    same_field(record.field, plant.field)
    check_sizes(record, plant)
    return tuple([place for place, (x, u, y) in enumerate(record.rows) if plant.step(x, u) != y])


def check_fits(record):
    """Raise NoFit if no plant fits the record."""
    if record.quarrel() is not None:
        raise NoFit()


def fitting_plant(record):
    """Return the plant that fits the record and has 0 wherever the record leaves the choice."""
    check_fits(record)
    rows = [_fitting_row(record, place) for place in range(record.size)]
    return plant_of_rows(record.field, record.size, rows)


def reply(record, x, u):
    """Return the reply to (x, u) that all plants that fit the record give, None if they give several."""
    weights = record.weights(x, u)
    check_fits(record)
    return None if weights is None else sum_of_replies(record, weights)


def unlike(record, x, u):
    """Return None if the reply to (x, u) is sure, otherwise two plants that fit and reply differently."""
    weights = record.weights(x, u)
    check_fits(record)
    if weights is not None:
        return None
    plant = fitting_plant(record)
    return plant, plant_plus(plant, _row_unheard(record, tuple(x) + tuple(u)))


def _fitting_row(record, place):
    # The rows that are not kept are sums of the kept ones, replies too, so they ask for nothing more.
    if record.rank == 0:
        return zero_row(record.size + record.inputs)
    asked = [x + u for x, u, y in record.kept]
    _, point = solve(record.field, asked, [y[place] for x, u, y in record.kept])
    return point


def _row_unheard(record, z):
    # The z is new, so one of the silent rows is not silent on it.
    field = record.field
    heard = [row for row in record.span.silent_rows() if dot(field, row, z) != ZERO]
    return row_times(field, field.over(ONE, dot(field, heard[0], z)), heard[0])
