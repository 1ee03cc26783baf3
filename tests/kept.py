"""Boxes that are kept or lost, by sums of the tests' own."""

from fractions import Fraction
from functools import lru_cache
from random import Random

from disturbed import corner_rows, own_agrees, own_lots, some_fits
from polyhedra import dot_of
from sums import FRACTIONS, opened, packed_row, rank_in
from untaughthelm.boxes import Bounds, Box
from untaughthelm.fits import find_ends
from untaughthelm.keeping import Blow, Stop, keep
from untaughthelm.plants import Plant


def drawn_box(source, size):
    scale = source.choice((1, 2, 6))
    return Box(packed_row(FRACTIONS, [-Fraction(source.randint(1, 4) * scale, 2) for _ in range(size)]),
               packed_row(FRACTIONS, [Fraction(source.randint(1, 4) * scale, 2) for _ in range(size)]))


def drawn_bounds(source, inputs):
    def end(sign):
        return None if source.randrange(2) else (sign * source.randint(0, 12), 1)

    return Bounds([end(-1) for _ in range(inputs)], [end(1) for _ in range(inputs)])


@lru_cache(None)
def asked_boxes():
    """Fits with a plant that agrees, a box and bounds."""
    told = []
    for seed, (fit, plant) in enumerate(some_fits()):
        source = Random(seed)
        for turn in range(2):
            bounds = drawn_bounds(source, fit.record.inputs) if turn else Bounds([None] * fit.record.inputs,
                                                                                 [None] * fit.record.inputs)
            told.append((fit, plant, drawn_box(source, fit.record.size), bounds))
    return tuple(told)


@lru_cache(None)
def kept_boxes():
    """The same, with what keep returns."""
    return tuple((fit, plant, box, bounds, keep(fit, box, bounds)) for fit, plant, box, bounds in asked_boxes())


def is_let(bounds, u):
    return all((low is None or Fraction(*low) <= Fraction(*n)) and (high is None or Fraction(*n) <= Fraction(*high))
               for low, n, high in zip(bounds.low, u, bounds.high))


def is_safe(fit, box, bounds, x, u):
    """Whether an input is safe at a state, by what find_ends tells."""
    if not is_let(bounds, u):
        return False
    for state in range(box.size):
        ends = find_ends(fit, state, x, u)
        push = Fraction(*fit.pushes[state])
        if ends.low.value is None or ends.high.value is None:
            return False
        if Fraction(*ends.low.value) - push < Fraction(*box.low[state]):
            return False
        if Fraction(*ends.high.value) + push > Fraction(*box.high[state]):
            return False
    return True


def half_space(fit, box, bounds, corner, blow):
    """The parts and the end of 14.7, as fractions."""
    if isinstance(blow, Stop):
        sign, end = (1, bounds.high[blow.place]) if blow.side == "high" else (-1, bounds.low[blow.place])
        return [Fraction(sign * int(place == blow.place)) for place in range(bounds.inputs)], sign * Fraction(*end)
    x = opened(box.high[k] if digit else box.low[k] for k, digit in enumerate(corner))
    drift = dot_of(opened(blow.plant.a[blow.state]), x)
    push = Fraction(*fit.pushes[blow.state])
    row = opened(blow.plant.b[blow.state])
    if blow.side == "high":
        return row, Fraction(*box.high[blow.state]) - push - drift
    return [-part for part in row], drift - Fraction(*box.low[blow.state]) - push


def check_lost(case, fit, box, bounds, told):
    """Every promise of 14.7 but that the corner is the least one."""
    case.assertIn(told.corner, box.corners())
    case.assertIsInstance(told.blows, tuple)
    case.assertIsInstance(told.weights, tuple)
    case.assertTrue(1 <= len(told.blows) <= bounds.inputs + 1)
    case.assertEqual(len(told.weights), len(told.blows))
    parts, end = [Fraction(0)] * bounds.inputs, Fraction(0)
    for blow, weight in zip(told.blows, told.weights):
        case.assertIn(blow.side, ("low", "high"))
        if isinstance(blow, Stop):
            case.assertIsNot((bounds.high if blow.side == "high" else bounds.low)[blow.place], None)
        else:
            case.assertIsInstance(blow, Blow)
            case.assertIn(blow.lot, own_lots(fit))
            case.assertIsInstance(blow.plant, Plant)
            case.assertTrue(own_agrees(fit, blow.lot, blow.plant))
            case.assertIn(blow.state, range(box.size))
        case.assertTrue(FRACTIONS.holds(weight))
        case.assertGreater(weight[0], 0)
        row, last = half_space(fit, box, bounds, told.corner, blow)
        parts = [part + Fraction(*weight) * number for part, number in zip(parts, row)]
        end += Fraction(*weight) * last
    case.assertEqual((parts, end), ([0] * bounds.inputs, -1))


def is_bound(fit, lot, state):
    """Whether the plant rows of a state surely stay within some box, so that their basic points tell them all."""
    between = [tuple(x + u) for place, (x, u, y) in enumerate(fit.record.rows) if place not in lot]
    between += [tuple(prior.parts) for prior in fit.priors
                if prior.state == state and prior.low is not None and prior.high is not None]
    return rank_in(FRACTIONS, between) == fit.record.size + fit.record.inputs


def safe_interval(fit, box, bounds, corner):
    """With one input and plant rows that are bound: the least and the greatest safe input, None if there is none."""
    low = None if bounds.low[0] is None else Fraction(*bounds.low[0])
    high = None if bounds.high[0] is None else Fraction(*bounds.high[0])
    x = opened(box.high[k] if digit else box.low[k] for k, digit in enumerate(corner))
    for lot in own_lots(fit):
        rows = [corner_rows(fit, lot, state) for state in range(box.size)]
        for state in range(box.size if all(rows) else 0):
            push = Fraction(*fit.pushes[state])
            for row in rows[state]:
                drift, slope = dot_of(row[:-1], x), row[-1]
                for part, end in ((slope, Fraction(*box.high[state]) - push - drift),
                                  (-slope, drift - Fraction(*box.low[state]) - push)):
                    if part > 0:
                        high = end / part if high is None else min(high, end / part)
                    elif part < 0:
                        low = end / part if low is None else max(low, end / part)
                    elif end < 0:
                        return None
    return None if low is not None and high is not None and low > high else (low, high)
