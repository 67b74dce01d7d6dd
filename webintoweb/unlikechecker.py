"""Looks at papers that two webs are not the same up to names. It seeks nothing."""

from webintoweb.errors import NoPaper
from webintoweb.leadings import full_lists
from webintoweb.nonechecker import look_at
from webintoweb.strikes import WAYS

COUNTS = ("counts",)


def lets_unlike(one, other, thing):
    """True where any plain thing is an unlike paper of both webs."""
    if thing != COUNTS:
        look_at(one, other, full_lists(one, other), thing, WAYS + ("else",))
    elif are_counts_like(one, other):
        raise NoPaper((), "counts", -1)
    return True


def are_counts_like(one, other):
    """Whether both webs have as many places, and as many ties."""
    return one[0] == other[0] and len(one[1]) == len(other[1])
