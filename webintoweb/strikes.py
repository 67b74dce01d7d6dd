"""Strikes: things that go out of lists because a tie has nowhere to go."""

from webintoweb.plain import is_place, with_list

WAYS = ("out", "in")


def is_strike_by_kind(W, V, thing, ways):
    """Whether any plain thing is a strike by webs W and V, of one of the ways, whether it goes or not."""
    if not isinstance(thing, tuple) or len(thing) != 4:
        return False
    a, x, b, way = thing
    if not is_place(a, W[0]) or not is_place(x, V[0]) or not is_place(b, W[0]):
        return False
    return way in ways


def are_strikes_by_kind(W, V, thing, ways):
    """Whether any plain thing is a tuple of strikes by webs W and V, whether they go or not."""
    return isinstance(thing, tuple) and all(is_strike_by_kind(W, V, strike, ways) for strike in thing)


def goes(W, V, lists, strike):
    """Whether a strike goes by the lists."""
    a, x, b, way = strike
    tie = (b, a) if way == "in" else (a, b)
    # The way "else", which papers of unlike webs have, needs no tie.
    return (way == "else" or tie in W[1]) and must_go(V[1], lists, strike)


def must_go(ties, lists, strike):
    """Whether x stands in the list of a, and nothing that is left in the list of b lets a be led to it."""
    a, x, b, way = strike
    if x not in lists[a]:
        return False
    if way == "else":
        return a != b and lists[b] == (x,)
    return not has_end(ties, x, lists[b], way)


def has_end(ties, x, places, way):
    """Whether x has a tie, out or in, with one of places."""
    for y in places:
        tie = (x, y) if way == "out" else (y, x)
        if tie in ties:
            return True
    return False


def struck(lists, strike):
    """The lists without what the strike takes."""
    a, x = strike[:2]
    return with_list(lists, a, tuple([y for y in lists[a] if y != x]))


def struck_as_far(W, V, lists, strikes):
    """How many of the strikes go, one behind another, and the lists that these leave."""
    for k, strike in enumerate(strikes):
        if not goes(W, V, lists, strike):
            return (k, lists)
        lists = struck(lists, strike)
    return (len(strikes), lists)
