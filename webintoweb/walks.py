"""Walks in a web, its period and levels, and how long walks along its ties are."""

from webintoweb.plain import is_place
from webintoweb.webs import outs, pieces

MOST_ON_WALK = 200


def is_walk(web, thing):
    """Whether any plain thing is a walk of the web."""
    return is_walk_by_kind(web, thing) and goes_by_ties(web, thing)


def is_walk_by_kind(web, thing):
    """Whether thing has places of the web and a sign between each two of them, whatever ties there are."""
    if not isinstance(thing, tuple) or len(thing) != 2:
        return False
    places, ways = thing
    if not isinstance(places, tuple) or not isinstance(ways, str):
        return False
    if len(places) > MOST_ON_WALK or len(ways) != len(places) - 1:
        return False
    return all(is_place(place, web[0]) for place in places) and all(way in ("+", "-") for way in ways)


def goes_by_ties(web, walk):
    """Whether each step goes along a tie at +, or back along one at -."""
    places, ways = walk
    for k, way in enumerate(ways):
        tie = (places[k], places[k + 1]) if way == "+" else (places[k + 1], places[k])
        if tie not in web[1]:
            return False
    return True


def net_of(walk):
    """How many + the walk has less how many -."""
    return sum([1 if way == "+" else -1 for way in walk[1]])


def long_of(walk):
    """How many signs the walk has."""
    return len(walk[1])


def is_closed(walk):
    """Whether the walk ends where it begins."""
    return walk[0][0] == walk[0][-1]


def walks_to(web):
    """For each place a walk to it from the least place that walks join it with."""
    walks = {places[0]: ((places[0],), "") for places in pieces(web)}
    # Each round comes to one place more, at least, while there are any.
    for step in range(web[0]):
        for a, b in web[1]:
            if a in walks and b not in walks:
                walks[b] = walked_on(walks[a], b, "+")
            if b in walks and a not in walks:
                walks[a] = walked_on(walks[b], a, "-")
    return [walks[a] for a in range(web[0])]


def walked_on(walk, place, way):
    """The walk with one step more."""
    return (walk[0] + (place,), walk[1] + way)


def levels(web):
    """(period, levels) of the web."""
    nets = [net_of(walk) for walk in walks_to(web)]
    period = 0
    for a, b in web[1]:
        period = common_divisor(period, nets[a] + 1 - nets[b])
    if period != 0:
        nets = [net % period for net in nets]
    return (period, tuple(nets))


def common_divisor(one, other):
    """The greatest common divisor of both, 0 of 0 and 0."""
    one = abs(one)
    other = abs(other)
    while other != 0:
        one, other = other, one % other
    return one


def beginnings(web, k):
    """For each number from 0 to k the places at which walks along so many ties begin."""
    found = [tuple(range(web[0]))]
    for step in range(k):
        last = found[-1]
        found.append(tuple([a for a in range(web[0]) if any(b in last for b in outs(web, a))]))
    return found


def longest(web):
    """Of how many ties the longest walk along them is, None where some come round."""
    found = beginnings(web, web[0])
    # A walk of as many ties as there are places comes to some place twice.
    if found[-1] != ():
        return None
    return found.index(()) - 1
