"""Checks of arguments that several parts of the program share."""

from twochoosers.errors import BadCount, BadName, BadSet, BadSide, DuplicateName, UnlikeOutcomes
from twochoosers.naming import valid_name

MOST_OUTCOMES = 6
SIDES = ("rows", "columns")


def is_integer(value):
    """Return True if the value, which may be any value, is an integer, and False otherwise."""
    # Python counts True and False among the integers; here they are none.
    return isinstance(value, int) and not isinstance(value, bool)


def is_index(value, count):
    """Return True if the value, which may be any value, is an integer from 0 on below the count."""
    return is_integer(value) and 0 <= value < count


def is_set_of(outcomes, value):
    """Return True if the value, which may be any value, is a set of some of these outcomes."""
    if not isinstance(value, tuple):
        return False
    # Only a set equals the outcomes that stand in it, each taken once and in ascending order.
    return value == tuple([name for name in sorted(outcomes) if name in value])


def check_count(count):
    """Raise BadCount if this cannot be a number of outcomes."""
    if not 1 <= count <= MOST_OUTCOMES:
        raise BadCount(count)


def check_names(names):
    """Raise BadName or DuplicateName for the first item that is no name or repeats an earlier one."""
    for at, name in enumerate(names):
        if not valid_name(name):
            raise BadName(name)
        if name in names[:at]:
            raise DuplicateName(name)


def check_set(outcomes, value):
    """Raise BadSet if the value, which may be any value, is not a set of these outcomes."""
    if not is_set_of(outcomes, value):
        raise BadSet(value)


def check_side(word):
    """Raise BadSide if this is not one of the two sides."""
    if word not in SIDES:
        raise BadSide(word)


def check_outcomes(outcomes, names):
    """Raise UnlikeOutcomes if the names, a tuple in ascending order, are not these outcomes."""
    if names != outcomes:
        raise UnlikeOutcomes(names)
