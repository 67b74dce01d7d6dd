"""Webs drawn together by classes of their places."""

from webintoweb.leadings import classes_of
from webintoweb.plain import are_rising
from webintoweb.webs import web_of


def are_classes(W, thing):
    """Whether any plain thing is classes of W."""
    if not isinstance(thing, tuple):
        return False
    for places in thing:
        if not are_rising(places, W[0]) or places == ():
            return False
    firsts = [places[0] for places in thing]
    held = [a for places in thing for a in places]
    return firsts == sorted(firsts) and sorted(held) == list(range(W[0]))


def drawn(W, classes):
    """The web with a place for each class, and the leading of W onto it."""
    numbers = {a: k for k, places in enumerate(classes) for a in places}
    leading = tuple([numbers[a] for a in range(W[0])])
    ties = [(leading[a], leading[b]) for a, b in W[1]]
    return (web_of(len(classes), ties), leading)


def taken_apart(W, f):
    """W drawn together by f's classes, the leading onto that, and the one to one tuple from there on."""
    classes = classes_of(f)
    web, leading = drawn(W, classes)
    return (web, leading, tuple([f[places[0]] for places in classes]))
