"""Webs: what they are, their ties, parts and pieces."""

from webintoweb.plain import is_place, is_whole

MOST_PLACES = 64


def is_web(thing):
    """Whether any plain thing is a web."""
    if not isinstance(thing, tuple) or len(thing) != 2:
        return False
    n, ties = thing
    return is_whole(n) and 0 <= n <= MOST_PLACES and are_ties(n, ties)


def are_ties(n, thing):
    """Whether thing is a rising tuple of unlike ties of n places."""
    if not isinstance(thing, tuple):
        return False
    last = ()
    for tie in thing:
        if not is_tie(n, tie) or tie <= last:
            return False
        last = tie
    return True


def is_tie(n, thing):
    """Whether thing is a tuple of two of n places."""
    if not isinstance(thing, tuple) or len(thing) != 2:
        return False
    return is_place(thing[0], n) and is_place(thing[1], n)


def web_of(n, pairs):
    """The web of n places with just these pairs as its ties."""
    return (n, tuple(sorted({(a, b) for a, b in pairs})))


def has_tie(web, a, b):
    """Whether the web has a tie from a to b."""
    return (a, b) in web[1]


def outs(web, a):
    """The places to which a has a tie, rising."""
    return tuple([end for start, end in web[1] if start == a])


def ins(web, a):
    """The places that have a tie to a, rising."""
    return tuple([start for start, end in web[1] if end == a])


def loops(web):
    """The places that have a tie to themselves, rising."""
    return tuple([start for start, end in web[1] if start == end])


def part(web, places):
    """The web's part on places, which are numbered anew as they rise."""
    numbers = {place: k for k, place in enumerate(places)}
    ties = [(numbers[a], numbers[b]) for a, b in web[1] if a in numbers and b in numbers]
    return web_of(len(places), ties)


def backwards(web):
    """The web with each tie the other way about."""
    return web_of(web[0], [(b, a) for a, b in web[1]])


def renamed(web, names):
    """The web with names[a] for each place a."""
    return web_of(web[0], [(names[a], names[b]) for a, b in web[1]])


def pieces(web):
    """The places that hang together, for all of them, by their first places."""
    firsts = first_places(web)
    found = {}
    for place, first in enumerate(firsts):
        found.setdefault(first, []).append(place)
    return tuple([tuple(places) for places in found.values()])


def first_places(web):
    """For each place the first one that it hangs together with."""
    firsts = list(range(web[0]))
    for a, b in web[1]:
        less = min(firsts[a], firsts[b])
        more = max(firsts[a], firsts[b])
        firsts = [less if first == more else first for first in firsts]
    return firsts
