"""Leadings into rounds, lines and all of two, or walks that bar them."""

from webintoweb.walks import beginnings, net_of, walks_to
from webintoweb.webs import outs


def round_told(web, k):
    """A round paper of the web and k."""
    walks = walks_to(web)
    nets = [net_of(walk) for walk in walks]
    for a, b in web[1]:
        if (nets[a] + 1 - nets[b]) % k != 0:
            return ("walk", walk_round(walks[a], walks[b]))
    return ("leading", tuple([net % k for net in nets]))


def walk_round(there, other):
    """The walk there, by a tie from its end to the other walk's end, and back along that one."""
    back = "".join(["-" if way == "+" else "+" for way in other[1][::-1]])
    return (there[0] + other[0][::-1], there[1] + "+" + back)


def line_told(web, k):
    """A line paper of the web and k."""
    found = beginnings(web, k)
    if found[k] != ():
        return ("walk", walk_along(web, found))
    # What begins longer walks comes earlier in the line.
    return ("leading", tuple([k - len([1 for places in found if a in places]) for a in range(web[0])]))


def walk_along(web, found):
    """The places of a walk along ties that begins at the last of the beginnings found."""
    walk = [found[-1][0]]
    for places in found[-2::-1]:
        walk.append([b for b in outs(web, walk[-1]) if b in places][0])
    return tuple(walk)


def two_told(web):
    """A two paper of the web."""
    # All of two is the round of two, and a walk's net is odd just where it is odd itself.
    return round_told(web, 2)
