"""Linear programs over the fractions: what has the least costs, and certificates for it."""

from untaughthelm.errors import BadProgram
from untaughthelm.fields import Field
from untaughthelm.ratios import ZERO, common_bottom, compare_ratios, is_ratio, is_sequence, make_ratio, ratio_negative
from untaughthelm.ratios import ratio_over, whole_times
from untaughthelm.rows import dot, row_table, row_times, zero_row
from untaughthelm.simplex import Tableau


class Optimum:
    """A point with the least costs, and the weights of the constraints that prove it."""

    def __init__(self, point, weights):
        self.point = point
        self.weights = weights

    def __eq__(self, other):
        return isinstance(other, Optimum) and self.point == other.point and self.weights == other.weights


class Infeasible:
    """No point keeps all constraints; the weights of the constraints prove it."""

    def __init__(self, weights):
        self.weights = weights

    def __eq__(self, other):
        return isinstance(other, Infeasible) and self.weights == other.weights


class Unbounded:
    """A point, and a ray along which the costs fall for ever."""

    def __init__(self, point, ray):
        self.point = point
        self.ray = ray

    def __eq__(self, other):
        return isinstance(other, Unbounded) and self.point == other.point and self.ray == other.ray


def minimize(costs, constraints):
    """Return the Optimum of a linear program, or why there is none: Infeasible or Unbounded."""
    _check_program(costs, constraints)
    return least_point(costs, constraints)


class Program:
    """Constraints of points of this width, of which the costs may be told one after another; checks nothing."""

    def __init__(self, width, constraints):
        # The weights are unknowns that are 0 or more: times the parts they add up to the negative of
        # the costs, and times the ends to as little as can be. Each constraint is made whole.
        self._scales = [common_bottom(tuple(parts) + (end,)) for parts, end in constraints]
        columns = [[whole_times(part, scale) for part in parts] for (parts, _), scale in zip(constraints, self._scales)]
        ends = [whole_times(end, scale) for (_, end), scale in zip(constraints, self._scales)]
        self._tableau = Tableau(columns, ends, width)
        column = self._tableau.settle()
        # None if some point keeps all constraints.
        self.infeasible = None if column is None else Infeasible(self._weights_for_ever(column, constraints))

    def cheapest(self, costs):
        """Return the Optimum for these costs, or why there is none."""
        if self.infeasible is not None:
            return self.infeasible
        bottom = common_bottom(costs)
        at = self._tableau.meet([-whole_times(cost, bottom) for cost in costs])
        if at is not None:
            return Unbounded(self.last_point(), self._ray(at, costs))
        return Optimum(self.last_point(), self._weights([row[-1] for row in self._tableau.rows], bottom))

    def last_point(self):
        """Return the point with the least costs of those told last, or one that keeps all constraints."""
        # What the weights would cost less if a goal were higher by one.
        goals = self._tableau.rows[-1][self._tableau.width:-1]
        return tuple([make_ratio(-number, self._tableau.bottom) for number in goals])

    def _weights(self, tops, bottom):
        # The weights that have these tops, one for each equation, over the tableau's bottom and this one.
        weights = list(zero_row(len(self._scales)))
        for place, top in zip(self._tableau.basis, tops):
            # An equation that keeps its own column has a top of 0.
            if place < len(weights):
                weights[place] = make_ratio(top * self._scales[place], self._tableau.bottom * bottom)
        return tuple(weights)

    def _weights_for_ever(self, column, constraints):
        # If this column rises by 1, these others rise with it and all goals stay met.
        weights = list(self._weights([-row[column] for row in self._tableau.rows], 1))
        weights[column] = (self._scales[column], 1)
        total = dot(Field(), weights, [end for parts, end in constraints])
        return row_times(Field(), ratio_over((-1, 1), total), weights)

    def _ray(self, at, costs):
        # In this equation all unknowns have one sign, and the goal, a sum of all goals, has the other.
        ray = [(number, 1) for number in self._tableau.rows[at][self._tableau.width:-1]]
        return row_times(Field(), ratio_over((-1, 1), dot(Field(), costs, ray)), ray)


def least_point(costs, constraints):
    """Return what minimize does, for programs of any size; checks nothing."""
    return Program(len(costs), constraints).cheapest(costs)


def keeps(point, constraints):
    """Return whether the point keeps all constraints."""
    field = Field()
    return all([compare_ratios(dot(field, parts, point), end) <= 0 for parts, end in constraints])


def is_proof(weights, constraints, parts, end):
    """Return whether weights, none below 0, times the constraints add up to these parts and this end."""
    field = Field()
    return (field.holds_row(weights, len(constraints))
            and all([weight[0] >= 0 for weight in weights])
            and row_table(field, weights, [told for told, _ in constraints], len(parts)) == parts
            and dot(field, weights, [last for _, last in constraints]) == end)


def minimum_fault(costs, constraints, told):
    """Return None if a result of minimize is right, otherwise the first word that applies."""
    _check_program(costs, constraints)
    field = Field()
    width = len(costs)
    if isinstance(told, Infeasible):
        proved = is_proof(told.weights, constraints, zero_row(width), (-1, 1))
        return None if proved else "weights"
    if not isinstance(told, (Optimum, Unbounded)):
        return "kind"
    if not field.holds_row(told.point, width) or not keeps(told.point, constraints):
        return "point"
    if isinstance(told, Unbounded):
        return None if _is_ray(told.ray, costs, constraints) else "ray"
    parts = row_times(field, (-1, 1), costs)
    end = ratio_negative(dot(field, costs, told.point))
    return None if is_proof(told.weights, constraints, parts, end) else "weights"


def _check_program(costs, constraints):
    if not is_sequence(costs, 1, 12) or not all([is_ratio(number) for number in costs]):
        raise BadProgram("costs", None)
    if not is_sequence(constraints, 0, 60):
        raise BadProgram("many", None)
    field = Field()
    for at, constraint in enumerate(constraints):
        if not is_sequence(constraint, 2, 2):
            raise BadProgram("pair", at)
        if not field.holds_row(constraint[0], len(costs)):
            raise BadProgram("parts", at)
        if not is_ratio(constraint[1]):
            raise BadProgram("end", at)


def _is_ray(ray, costs, constraints):
    field = Field()
    return (field.holds_row(ray, len(costs)) and keeps(ray, [(parts, ZERO) for parts, end in constraints])
            and dot(field, costs, ray) == (-1, 1))
