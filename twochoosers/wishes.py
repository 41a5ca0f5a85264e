"""Wishes: how much a side likes each outcome."""

from twochoosers.checks import check_count, check_names, check_outcomes, check_set, is_integer
from twochoosers.errors import BadCount, BadName, BadWish, UnknownName
from twochoosers.naming import valid_name


class Wishes:
    """An integer for each of 1 to 6 outcomes; the greater it is, the better the outcome is liked."""

    def __init__(self, amounts):
        check_count(len(amounts))
        names = sorted(amounts)
        for name in names:
            if not valid_name(name):
                raise BadName(name)
        for name in names:
            if not is_integer(amounts[name]):
                raise BadWish(amounts[name])
        self._outcomes = tuple(names)
        self._amounts = {name: amounts[name] for name in names}

    @classmethod
    def ranked(cls, ranks):
        """Return the wishes with these lists of outcomes as ranks, the best one first."""
        names = [name for rank in ranks for name in rank]
        check_count(len(names))
        if any([len(rank) == 0 for rank in ranks]):
            raise BadCount(0)
        check_names(names)
        amounts = {}
        for amount, rank in enumerate(ranks[::-1]):
            for name in rank:
                amounts[name] = amount
        return cls(amounts)

    @classmethod
    def only(cls, outcomes, wanted):
        """Return the wishes with 1 for the outcomes in the set, and 0 for all others."""
        check_count(len(outcomes))
        check_names(outcomes)
        check_set(outcomes, wanted)
        return cls({name: 1 if name in wanted else 0 for name in outcomes})

    @property
    def outcomes(self):
        """The tuple of the outcomes in ascending order."""
        return self._outcomes

    def __getitem__(self, at):
        if at not in self._outcomes:
            raise UnknownName(at)
        return self._amounts[at]

    # Without this, Python would iterate by asking for the amounts of 0, 1 and so on.
    def __iter__(self):
        raise TypeError("wishes are not iterated over")

    def __eq__(self, other):
        return isinstance(other, Wishes) and self._amounts == other._amounts

    def amounts(self):
        """Return the dict of all amounts."""
        return dict(self._amounts)

    def prefers(self, one, other):
        """Return True if `one` is liked better than `other`, and False otherwise."""
        return self[one] > self[other]

    def best(self, names):
        """Return the set of those of the names than which none of them is liked better."""
        if len(names) == 0:
            raise BadCount(0)
        most = max([self[name] for name in names])
        return tuple([name for name in self._liked(most) if name in names])

    def ranks(self):
        """Return the list of the sets of outcomes liked equally well, the best ones first."""
        levels = sorted({self._amounts[name] for name in self._outcomes})
        return [self._liked(amount) for amount in levels[::-1]]

    def opposite(self):
        """Return the wishes with all amounts negated."""
        return Wishes({name: -self._amounts[name] for name in self._outcomes})

    def agrees(self, other):
        """Return True if the other wishes have the same ranks, and False otherwise."""
        check_outcomes(self._outcomes, other.outcomes)
        return self.ranks() == other.ranks()

    def _liked(self, amount):
        return tuple([name for name in self._outcomes if self._amounts[name] == amount])
