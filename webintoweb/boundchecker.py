"""Looks at papers that a web is the least above webs, or the greatest below them. It seeks nothing."""

from webintoweb.errors import NoPaper
from webintoweb.leadings import is_leading
from webintoweb.together import NO_PLACES, ONE_LOOP, paired, side


def lets_above(webs, S, thing):
    """True where any plain thing is an above paper of webs and S."""
    look_at_kind(webs, thing)
    fs, g = thing
    whole = NO_PLACES
    for k, web in enumerate(webs):
        look_at_leading(web, S, fs[k], k)
        whole = side(whole, web)
    return lets_whole(S, whole, g)


def lets_below(webs, S, thing):
    """True where any plain thing is a below paper of webs and S."""
    look_at_kind(webs, thing)
    fs, g = thing
    whole = ONE_LOOP
    for k, web in enumerate(webs):
        look_at_leading(S, web, fs[k], k)
        whole = paired(whole, web)
    return lets_whole(whole, S, g)


def look_at_kind(webs, thing):
    """Refuses what is no tuple of two, the first one a tuple of as many things as webs."""
    if not isinstance(thing, tuple) or len(thing) != 2:
        raise NoPaper((), "shape")
    if not isinstance(thing[0], tuple) or len(thing[0]) != len(webs):
        raise NoPaper((), "shape")


def look_at_leading(W, V, f, k):
    """Refuses f, number k, where it is no leading of W into V."""
    if not is_leading(W, V, f):
        raise NoPaper((k,), "leading")


def lets_whole(W, V, g):
    """True where g is a leading of W into V."""
    if not is_leading(W, V, g):
        raise NoPaper((), "whole")
    return True
