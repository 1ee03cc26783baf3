"""Records of which up to "wrong" rows may have any reply: what they tell all the same, and what they hide."""

from untaughthelm.asking import Asker
from untaughthelm.errors import BadRecord, BadWrong, NoFit, Quarrel
from untaughthelm.fields import check_row
from untaughthelm.plants import plant_plus
from untaughthelm.ratios import ZERO, is_whole
from untaughthelm.records import Record
from untaughthelm.rows import dot
from untaughthelm.spans import Span
from untaughthelm.unlike import fitting_plant

_MOST_ROWS = 12


class Disguise:
    """A record with two unlike plants, each possible by its lot."""

    def __init__(self, record, plant, lot, other, other_lot):
        self.record = record
        self.plant = plant
        self.lot = lot
        self.other = other
        self.other_lot = other_lot

    def __eq__(self, other):
        return (isinstance(other, Disguise) and self.record == other.record and self.plant == other.plant
                and self.lot == other.lot and self.other == other.other and self.other_lot == other.other_lot)


def fitting_lots(record, wrong):
    """Return all lots of min(wrong, len(record)) places without which some plant fits the record."""
    return tuple([lot for lot, _ in _fitting_askers(record, wrong)])


def sure_reply(record, wrong, x, u):
    """Return the reply to (x, u) that all possible plants give, None if they give several."""
    _check_wrong(record, wrong)
    check_row(record.field, "x", x, record.size)
    check_row(record.field, "u", u, record.inputs)
    replies = [asker.reply(x, u) for _, asker in _fitting_askers(record, wrong)]
    if replies == []:
        raise NoFit()
    return replies[0] if all([told == replies[0] for told in replies]) else None


def loose(record, wrong):
    """Return a row that misses at most 2 times wrong rows of the record, None if there is none."""
    _check_wrong(record, wrong)
    zs = [x + u for x, u, y in record.rows]
    return _loose_row(Span(record.field, record.size + record.inputs), zs, 2 * wrong)


def disguise(record, wrong):
    """Return None if no row is loose, otherwise a Disguise: two plants that nobody can tell apart."""
    _check_wrong(record, wrong)
    plant = fitting_plant(record)
    row = loose(record, wrong)
    if row is None:
        return None
    other = plant_plus(plant, row)
    misses = [place for place, (x, u, y) in enumerate(record.rows) if dot(record.field, row, x + u) != ZERO]
    lot = tuple(misses[:wrong])
    rows = [(x, u, other.step(x, u) if place in lot else plant.step(x, u))
            for place, (x, u, y) in enumerate(record.rows)]
    disguised = Record(record.field, record.size, record.inputs, rows)
    return Disguise(disguised, plant, lot, other, tuple(misses[wrong:]))


def _check_wrong(record, wrong):
    if not is_whole(wrong, 0, 2):
        raise BadWrong(wrong)
    if len(record) > _MOST_ROWS:
        raise BadRecord("many")


def _fitting_askers(record, wrong):
    # Couples of a lot without which some plant fits and the Asker that has heard the other rows.
    _check_wrong(record, wrong)
    asker = Asker(record.field, record.size, record.inputs)
    return _askers_beside(asker, record.rows, 0, min(wrong, len(record)))


def _askers_beside(asker, rows, low, many):
    # As above, for lots of so many places from low on; the Asker has heard the rows before that.
    found = []
    for place in range(low, len(rows)):
        if many > 0:
            beside = _askers_beside(asker, rows, place + 1, many - 1)
            found.extend([((place,) + lot, other) for lot, other in beside])
        x, u, y = rows[place]
        try:
            asker = asker.hear(x, u, y)
        except Quarrel:
            return found
    if many == 0:
        found.append(((), asker))
    return found


def _loose_row(span, zs, misses):
    # A row that is silent on the span and misses at most so many of the zs. A z that the span
    # already tells is never missed, so only new ones leave a choice: to miss it or to be silent on it.
    for place, z in enumerate(zs):
        longer = span.with_row(z)
        if longer.rank > span.rank and misses > 0:
            row = _loose_row(span, zs[place + 1:], misses - 1)
            if row is not None:
                return row
        span = longer
    silent = span.silent_rows()
    return None if silent == () else silent[0]
