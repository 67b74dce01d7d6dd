"""Webs side by side and in pairs, with their leadings."""

from webintoweb.webs import web_of

# By these side and pairs begin where they are of none: side by side with the one, or in pairs with the other one, any
# web is itself.
NO_PLACES = (0, ())
ONE_LOOP = (1, ((0, 0),))


def side(W, V):
    """W, and V behind it, with the ties of both."""
    behind_ties = [(W[0] + a, W[0] + b) for a, b in V[1]]
    return web_of(W[0] + V[0], list(W[1]) + behind_ties)


def side_first(W, V):
    """The leading of W into side of W and V by which places stay themselves."""
    return tuple(range(W[0]))


def side_last(W, V):
    """The leading of V into side of W and V by which places stay themselves."""
    return tuple(range(W[0], W[0] + V[0]))


def over_side(f, g):
    """The leading of side that is f on the first web and g on the last one."""
    return f + g


def cut_side(W, f):
    """Both leadings of which f, a leading of side of W and another web, is put together."""
    return (f[:W[0]], f[W[0]:])


def paired(W, V):
    """The web of pairs of a place of W and one of V, with a tie where both have one."""
    ties = [(a * V[0] + b, c * V[0] + d) for a, c in W[1] for b, d in V[1]]
    return web_of(W[0] * V[0], ties)


def paired_first(W, V):
    """The leading of pairs of W and V into W."""
    return tuple([a for a in range(W[0]) for b in range(V[0])])


def paired_last(W, V):
    """The leading of pairs of W and V into V."""
    return tuple(range(V[0])) * W[0]


def into_paired(V, f, g):
    """The leading into pairs of some web and V that is f by the first and g by the last."""
    return tuple([a * V[0] + b for a, b in zip(f, g)])


def cut_paired(V, f):
    """Both leadings of which f, a leading into pairs of some web and V, is put together."""
    return (tuple([pair // V[0] for pair in f]), tuple([pair % V[0] for pair in f]))
