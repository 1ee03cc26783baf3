"""Judges of Keepers and Losts."""

from untaughthelm.cuts import HIGH, LOW, Cutter, at_full_size, bound_space, row_space
from untaughthelm.fields import holds_rows
from untaughthelm.fits import agrees_with, all_lots
from untaughthelm.keeping import Blow, Stop
from untaughthelm.plants import Plant
from untaughthelm.programs import is_proof
from untaughthelm.ratios import ONE, ZERO, is_sequence, is_whole
from untaughthelm.rows import zero_row


def keeper_fault(fit, box, bounds, told):
    """Return None if a Keeper is right, otherwise the first word that applies."""
    cutter = Cutter(fit, box, bounds)
    corners = box.corners()
    if told.box != box:
        return "box"
    if not holds_rows(cutter.field, told.inputs, bounds.inputs, len(corners)):
        return "inputs"
    if not all([bounds.holds(put) for put in told.inputs]):
        return "bounds"
    for digits, put in zip(corners, told.inputs):
        if cutter.broken_by_point(box.corner(digits), (ONE,) + tuple(put)) != []:
            return "corner"
    return None


def lost_fault(fit, box, bounds, told):
    """Return None if a Lost is right, otherwise the first word that applies."""
    # It raises what keep raises.
    Cutter(fit, box, bounds)
    if not is_sequence(told.corner, box.size, box.size) or not all([is_whole(digit, 0, 1) for digit in told.corner]):
        return "corner"
    if not is_sequence(told.blows, 1, bounds.inputs + 1):
        return "blows"
    if not all([isinstance(blow, (Blow, Stop)) for blow in told.blows]):
        return "blows"
    for blow in told.blows:
        fault = _stop_fault(bounds, blow) if isinstance(blow, Stop) else _blow_fault(fit, blow)
        if fault is not None:
            return fault
    spaces = [_half_space(fit, box, bounds, box.corner(told.corner), blow) for blow in told.blows]
    proved = is_proof(told.weights, spaces, zero_row(bounds.inputs), (-1, 1))
    return None if proved and ZERO not in told.weights else "weights"


def _blow_fault(fit, blow):
    record = fit.record
    if not _is_lot_of(fit, blow.lot):
        return "lot"
    if not isinstance(blow.plant, Plant) or blow.plant.field != record.field:
        return "plant"
    if blow.plant.size != record.size or blow.plant.inputs != record.inputs:
        return "plant"
    if not agrees_with(fit, tuple(blow.lot), blow.plant):
        return "plant"
    if not is_whole(blow.state, 0, record.size - 1):
        return "state"
    return None if blow.side in ("low", "high") else "side"


def _stop_fault(bounds, stop):
    if not is_whole(stop.place, 0, bounds.inputs - 1):
        return "state"
    if stop.side not in ("low", "high") or bound_space(bounds, stop.place, _side(stop)) is None:
        return "side"
    return None


def _is_lot_of(fit, lot):
    # Among whole numbers, True would pass for 1.
    return is_sequence(lot) and all([is_whole(place) for place in lot]) and tuple(lot) in all_lots(fit)


def _side(blow):
    return HIGH if blow.side == "high" else LOW


def _half_space(fit, box, bounds, x, blow):
    if isinstance(blow, Stop):
        return bound_space(bounds, blow.place, _side(blow))
    row = blow.plant.a[blow.state] + blow.plant.b[blow.state]
    return at_full_size(row_space(fit, box, x, blow.state, row, _side(blow)))
