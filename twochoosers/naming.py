"""Names of outcomes, and sets of them."""

LETTERS = "abcdefghijklmnopqrstuvwxyz"
DIGITS = "0123456789"
LONGEST_NAME = 6


def valid_name(text):
    """Return True if the string is a name, and False otherwise."""
    if not 1 <= len(text) <= LONGEST_NAME:
        return False
    return text[0] in LETTERS and all([sign in LETTERS or sign in DIGITS for sign in text])


def as_set(names):
    """Return the set of these names: each of them once, in ascending order."""
    return tuple(sorted(set(names)))


def in_order(sets):
    """Return the list of these sets in their order: the shorter ones first."""
    return sorted(sets, key=lambda names: (len(names), names))
