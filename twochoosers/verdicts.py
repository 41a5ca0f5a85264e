"""Verdicts: how calm a table is for all wishes, and what shows it."""

from twochoosers.forcing import firm_gap, is_gap
from twochoosers.walks import is_rough_part, rough_part


class Verdict:
    """A kind of table, with a gap and a rough part that show it, or None in place of these."""

    def __init__(self, kind, gap, rough):
        self._kind = copied(kind)
        self._gap = copied(gap)
        self._rough = copied(rough)

    @property
    def kind(self):
        """The word `smooth`, `firm` or `restless`, if this is a right verdict."""
        return copied(self._kind)

    @property
    def gap(self):
        """The set that keeps the table from being firm, or None."""
        return copied(self._gap)

    @property
    def rough(self):
        """The rough part that keeps the table from being smooth, or None."""
        return copied(self._rough)


def copied(value):
    """Return a copy of any value, in which the lists and dicts within it are copied too."""
    if isinstance(value, list):
        return [copied(item) for item in value]
    if isinstance(value, tuple):
        return tuple([copied(item) for item in value])
    if isinstance(value, dict):
        return {key: copied(value[key]) for key in value}
    return value


def judge(table):
    """Return the verdict of a table."""
    gap = firm_gap(table)
    rough = rough_part(table)
    # A smooth table is firm too, so this comes first.
    if rough is None:
        return Verdict("smooth", gap, rough)
    if gap is None:
        return Verdict("firm", gap, rough)
    return Verdict("restless", gap, rough)


def check_verdict(table, verdict):
    """Return True if the verdict has the kind of the table, and what shows it, and False otherwise."""
    told = judge(table)
    if verdict.kind != told.kind:
        return False
    gap_fits = verdict.gap is None if told.gap is None else is_gap(table, verdict.gap)
    rough_fits = verdict.rough is None if told.rough is None else is_rough_part(table, verdict.rough)
    return gap_fits and rough_fits
