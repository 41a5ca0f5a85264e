"""Checks of arguments that several parts of the program share."""

from twochoosers.errors import BadCount, BadName, DuplicateName
from twochoosers.naming import valid_name

MOST_OUTCOMES = 6


def is_integer(value):
    """Return True if the value, which may be any value, is an integer, and False otherwise."""
    # Python counts True and False among the integers; here they are none.
    return isinstance(value, int) and not isinstance(value, bool)


def is_set_of(outcomes, value):
    """Return True if the value, which may be any value, is a set of some of these outcomes."""
    if not isinstance(value, tuple):
        return False
    # Only a set equals the outcomes that stand in it, each taken once and in ascending order.
    return value == tuple([name for name in sorted(outcomes) if name in value])


def check_count(count):
    """Raise BadCount if this cannot be a number of outcomes."""
    if not 1 <= count <= MOST_OUTCOMES:
        raise BadCount(count)


def check_names(names):
    """Raise BadName or DuplicateName for the first item that is no name or repeats an earlier one."""
    for at, name in enumerate(names):
        if not valid_name(name):
            raise BadName(name)
        if name in names[:at]:
            raise DuplicateName(name)
