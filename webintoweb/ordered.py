"""Webs whose ties keep to an order: into these the least of closed lists is a leading."""

from webintoweb.closing import closed
from webintoweb.webs import renamed


def is_order_web(web):
    """Whether of each two ties the lesser begin and the lesser end are a tie."""
    ties = {tie: True for tie in web[1]}
    return all((min(x, u), min(y, v)) in ties for x, y in web[1] for u, v in web[1])


def least_leading(one, other, lists):
    """("leading", f), f the least of each closed list, or ("void", a), a the first place whose closed list is void."""
    lists = closed(one, other, lists)
    if () in lists:
        return ("void", lists.index(()))
    return ("leading", tuple([places[0] for places in lists]))


def order_names(web):
    """The first names by which the web renamed is an order web, or None."""
    for names in all_names(web[0]):
        if is_order_web(renamed(web, names)):
            return names
    return None


def all_names(n):
    """All tuples that have each of n places once, rising."""
    found = [()]
    for step in range(n):
        found = [names + (a,) for names in found for a in range(n) if a not in names]
    return found
