"""Looks at papers that say whether two webs are alike. It seeks nothing."""

from webintoweb.errors import NoPaper
from webintoweb.leadings import full_lists, is_leading
from webintoweb.nonechecker import lets_none
from webintoweb.plain import is_place


def lets_alike(W, V, thing):
    """True where any plain thing is an alike paper of W and V."""
    if not isinstance(thing, tuple) or len(thing) != 3:
        raise NoPaper((), "shape")
    if thing[0] == "alike":
        return lets_both(W, V, thing[1], thing[2])
    if thing[0] != "not" or not is_place(thing[1], 2):
        raise NoPaper((), "shape")
    if thing[1] == 0:
        return lets_none(W, V, full_lists(W, V), thing[2])
    return lets_none(V, W, full_lists(V, W), thing[2])


def lets_both(W, V, f, g):
    """True where f is a leading of W into V, and g one of V into W."""
    if not is_leading(W, V, f):
        raise NoPaper((), "first")
    if not is_leading(V, W, g):
        raise NoPaper((), "last")
    return True
