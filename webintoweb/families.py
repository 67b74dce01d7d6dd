"""Webs that have names of their own."""

from webintoweb.webs import web_of


def all_web(k):
    """ALL k: all ties between k places, but no loops."""
    return web_of(k, [(a, b) for a in range(k) for b in range(k) if a != b])


def round_web(k):
    """ROUND k: a tie from each place to the next, from the last to the first."""
    return web_of(k, [(a, (a + 1) % k) for a in range(k)])


def line_web(k):
    """LINE k: a tie from each lesser place to each greater one."""
    return web_of(k, [(a, b) for b in range(k) for a in range(b)])


def way_web(text):
    """The way whose ties go on where the text has >, and back where it has <."""
    ties = []
    for k, sign in enumerate(text):
        if sign == ">":
            ties.append((k, k + 1))
        else:
            ties.append((k + 1, k))
    return web_of(len(text) + 1, ties)
