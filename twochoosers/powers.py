"""Powers: which sets of outcomes a side forces, in whatever table."""

from twochoosers.checks import check_count, check_names, check_outcomes, check_set, is_set_of
from twochoosers.errors import BadCount, BadSet
from twochoosers.forcing import all_sets, common, least_of, least_sets, lies_in
from twochoosers.naming import as_set, in_order
from twochoosers.tables import Table


class Power:
    """Some outcomes and the sets of them that a side forces: those in which a given set lies."""

    def __init__(self, outcomes, sets):
        check_count(len(outcomes))
        check_names(outcomes)
        if len(sets) == 0:
            raise BadCount(0)
        for value in sets:
            if value == () or not is_set_of(outcomes, value):
                raise BadSet(value)
        self._outcomes = as_set(outcomes)
        self._sets = tuple(least_of(in_order(sets)))

    @property
    def outcomes(self):
        """The tuple of the outcomes in ascending order."""
        return self._outcomes

    @property
    def sets(self):
        """The tuple of the least forced sets, in order."""
        return self._sets

    @property
    def even(self):
        """True if both sides force the same sets in the table of the power, and False otherwise."""
        return ~self == self

    def __eq__(self, other):
        return isinstance(other, Power) and self._outcomes == other._outcomes and self._sets == other._sets

    def __invert__(self):
        return Power(self._outcomes, [
            wanted for wanted in all_sets(self._outcomes)
            if all([len(common(names, wanted)) > 0 for names in self._sets])
        ])

    def __or__(self, other):
        check_outcomes(self._outcomes, other.outcomes)
        return Power(self._outcomes, self._sets + other.sets)

    def __and__(self, other):
        check_outcomes(self._outcomes, other.outcomes)
        return Power(self._outcomes, [
            as_set(names + more) for names in self._sets for more in other.sets
        ])

    def forces(self, wanted):
        """Return True if the power forces the set, and False otherwise."""
        check_set(self._outcomes, wanted)
        return any([lies_in(names, wanted) for names in self._sets])

    def covers(self, other):
        """Return True if this power forces every set that the other one forces."""
        check_outcomes(self._outcomes, other.outcomes)
        return all([self.forces(names) for names in other.sets])

    def table(self):
        """Return a firm table in which the side `rows` has this power."""
        columns = (~self).sets
        return Table([[common(row, column)[0] for column in columns] for row in self._sets])


def power_of(table, side):
    """Return the power that a side has in a table."""
    return Power(table.outcomes, least_sets(table, side))
