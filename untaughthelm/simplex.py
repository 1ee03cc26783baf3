"""The simplex method, with whole numbers over a common bottom."""


class Tableau:
    """Equations in unknowns that are 0 or more, and the costs of the unknowns.

    Behind the unknowns' columns each equation has a column of its own, which is to be 0; the last
    column has the goals. The last row has what is left of the costs beside those of the basis, the
    columns that meet the equations while all others are 0.
    """

    def __init__(self, columns, costs, many):
        self.width = len(columns)
        self.bottom = 1
        self.basis = [self.width + at for at in range(many)]
        self.rows = []
        for at in range(many):
            own = [1 if place == at else 0 for place in range(many)]
            self.rows.append([column[at] for column in columns] + own + [0])
        self.rows.append(list(costs) + [0] * (many + 1))

    def settle(self):
        """Find a basis that has the least costs while all goals are 0; return None.

        If there is none, return the column that lowers the costs for ever.
        """
        self._let_own_columns_go()
        while True:
            lowering = [column for column in range(self.width) if self.rows[-1][column] < 0]
            if lowering == []:
                return None
            at = self._first_to_leave(lowering[0])
            if at is None:
                return lowering[0]
            self._turn(at, lowering[0])

    def meet(self, goals):
        """Find a basis that meets the goals with the least costs, from one that has them for others; return None.

        If no basis meets them, return the equation that shows it.
        """
        self._set_goals(goals)
        while True:
            at = self._first_unmet()
            if at is None:
                return None
            column = self._first_to_enter(at)
            if column is None:
                return at
            self._turn(at, column)

    def _set_goals(self, goals):
        # The equations' own columns tell what became of the goals.
        told = [sum([number * goal for number, goal in zip(row[self.width:-1], goals)]) for row in self.rows]
        self.rows = [row[:-1] + [goal] for row, goal in zip(self.rows, told)]

    def _first_to_leave(self, column):
        # All goals are 0, so nothing may rise at all. Always the first column that may be taken, here
        # and elsewhere: so no basis comes twice.
        rising = [(place, at) for at, place in enumerate(self.basis) if self.rows[at][column] > 0]
        return None if rising == [] else min(rising)[1]

    def _first_unmet(self):
        unmet = []
        for at, place in enumerate(self.basis):
            goal = self.rows[at][-1]
            # An own column that is still there can be moved by no unknown.
            if goal < 0 or (goal > 0 and place >= self.width):
                unmet.append((place, at))
        return None if unmet == [] else min(unmet)[1]

    def _first_to_enter(self, at):
        # The column that raises the equation's unknown at the least costs.
        row = self.rows[at]
        costs = self.rows[-1]
        best = None
        for column in range(self.width):
            # One quotient less than the other, without the division.
            if row[column] < 0 and (best is None or costs[column] * row[best] > costs[best] * row[column]):
                best = column
        return best

    def _let_own_columns_go(self):
        # An equation that is 0 in all unknowns keeps its own.
        for at in range(len(self.basis)):
            moved = [column for column in range(self.width) if self.rows[at][column] != 0]
            if moved != []:
                self._turn(at, moved[0])

    def _turn(self, at, column):
        lead = self.rows[at]
        if lead[column] < 0:
            lead = [-number for number in lead]
        pivot = lead[column]
        rows = []
        for row in self.rows:
            factor = row[column]
            # The division leaves no rest: over the bottom all numbers are determinants.
            rows.append([(number * pivot - factor * other) // self.bottom for number, other in zip(row, lead)])
        rows[at] = lead
        self.rows = rows
        self.bottom = pivot
        self.basis[at] = column
