"""Webs to the power of one another."""

from webintoweb.errors import TooMany
from webintoweb.webs import MOST_PLACES, web_of


def power(V, W):
    """The web of all tuples with a place of V for each place of W."""
    many = 1
    for a in range(W[0]):
        many *= V[0]
    if many > MOST_PLACES:
        raise TooMany("places")
    ties = {tie: True for tie in V[1]}
    tuples = [tuple_of(V, W, k) for k in range(many)]
    return web_of(many, [(j, k) for j in range(many) for k in range(many) if are_tied(W, ties, tuples[j], tuples[k])])


def are_tied(W, ties, f, g):
    """Whether each tie of W, begun by f and ended by g, is one of ties."""
    return all((f[a], g[b]) in ties for a, b in W[1])


def number_of(V, W, f):
    """Which one, as they rise, f is of all tuples with a place of V for each place of W."""
    number = 0
    for x in f:
        number = number * V[0] + x
    return number


def tuple_of(V, W, k):
    """The tuple with a place of V for each place of W that is number k as they rise."""
    found = []
    for a in range(W[0]):
        found.append(k % V[0])
        k = k // V[0]
    return tuple(reversed(found))


def taken_in(U, W, V, f):
    """The leading of U into the power of V by W that f, a leading of pairs of U and W into V, comes to."""
    return tuple([number_of(V, W, f[u * W[0]:(u + 1) * W[0]]) for u in range(U[0])])


def given_out(U, W, V, f):
    """The leading of pairs of U and W into V that f, a leading of U into the power of V by W, comes from."""
    return tuple([x for k in f for x in tuple_of(V, W, k)])
