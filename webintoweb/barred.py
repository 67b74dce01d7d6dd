"""None papers laid into another web, narrowed to lesser lists, and turned about."""

from webintoweb.plain import with_list
from webintoweb.strikes import struck

OTHER_WAYS = {"out": "in", "in": "out"}


def laid_in(paper, places):
    """The paper of a part on places, as one of the whole web."""
    strikes, end = paper
    laid = tuple([(places[a], x, places[b], way) for a, x, b, way in strikes])
    if end[0] == "void":
        return (laid, ("void", places[end[1]]))
    parts = tuple([laid_in(inner, places) for inner in end[2]])
    return (laid, ("cases", places[end[1]], parts))


def narrowed(W, V, lists, paper, others):
    """The paper of the lists, as one of other lists within them."""
    strikes, end = paper
    kept = []
    for strike in strikes:
        lists = struck(lists, strike)
        if strike[1] in others[strike[0]]:
            kept.append(strike)
            others = struck(others, strike)
    if end[0] == "void":
        return (tuple(kept), end)
    a = end[1]
    parts = []
    for x, inner in zip(lists[a], end[2]):
        if x in others[a]:
            parts.append(narrowed(W, V, with_list(lists, a, (x,)), inner, with_list(others, a, (x,))))
    return (tuple(kept), ("cases", a, tuple(parts)))


def turned_about(paper):
    """The paper as one of both webs with all ties backwards."""
    strikes, end = paper
    turned = tuple([(a, x, b, OTHER_WAYS[way]) for a, x, b, way in strikes])
    if end[0] == "void":
        return (turned, end)
    parts = tuple([turned_about(inner) for inner in end[2]])
    return (turned, ("cases", end[1], parts))
