"""Turnings of a web, and leadings into itself told again and again."""

from webintoweb.leadings import behind, is_leading, is_onto


def is_turning(W, thing):
    """Whether any plain thing is a turning of W."""
    return is_leading(W, W, thing) and is_onto(W, thing)


def undone(f):
    """The turning that leads f[a] to a."""
    starts = {x: a for a, x in enumerate(f)}
    return tuple([starts[x] for x in range(len(f))])


def again(f, k):
    """f put k times behind what leads each place to itself."""
    told = tuple(range(len(f)))
    for step in range(k):
        told = behind(told, f)
    return told


def still_number(f):
    """The least k from 1 on such that f k times again, put behind itself, stays."""
    k = 1
    told = f
    while behind(told, told) != told:
        told = behind(told, f)
        k += 1
    return k
