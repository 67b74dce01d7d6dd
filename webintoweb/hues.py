"""Hues: how many a web needs, and in how many ways any number of them does."""

from webintoweb.families import all_web
from webintoweb.finding import led
from webintoweb.leadings import full_lists
from webintoweb.webs import loops, web_of

FREE = ("free",)
LOOP = ("loop",)


def hues_told(web):
    """A hues paper of the web."""
    found = loops(web)
    if found != ():
        return ("loop", found[0])
    k = 0
    paper = None
    word, told = led_into_all(web, k)
    while word == "none":
        k += 1
        paper = told
        word, told = led_into_all(web, k)
    return ("hues", k, told, paper)


def led_into_all(web, k):
    """What is told of the web and all of k, by full lists."""
    V = all_web(k)
    return led(web, V, full_lists(web, V))


def taken_out(web, a, b):
    """The web without its ties between a and b."""
    return (web[0], tuple([tie for tie in web[1] if tie != (a, b) and tie != (b, a)]))


def merged(web, a, b):
    """The web with a and b drawn together at the lesser one, without the ties between them."""
    low = min(a, b)
    high = max(a, b)
    names = [low if c == high else c - 1 if c > high else c for c in range(web[0])]
    return web_of(web[0] - 1, [(names[c], names[d]) for c, d in taken_out(web, a, b)[1]])


def hue_tree(web):
    """A hue tree of the web."""
    if loops(web) != ():
        return LOOP
    if web[1] == ():
        return FREE
    a = min(web[1][0])
    b = max(web[1][0])
    return ("tie", a, b, hue_tree(taken_out(web, a, b)), hue_tree(merged(web, a, b)))


def hue_poly(web):
    """The hue poly of the web."""
    return tree_poly(web[0], hue_tree(web))


def tree_poly(n, tree):
    """The poly that a hue tree of a web of n places shows."""
    if tree == LOOP:
        return ()
    if tree == FREE:
        return (0,) * n + (1,)
    return poly_less(tree_poly(n, tree[3]), tree_poly(n - 1, tree[4]))


def poly_less(first, second):
    """The first poly less the second one."""
    # Drawn together a web has one place fewer, and a loop just where it had one: so the second poly is the shorter one,
    # or both are void, and the last number stays.
    found = list(first)
    for k, number in enumerate(second):
        found[k] -= number
    return tuple(found)


def value_at(poly, k):
    """The value of the poly at k."""
    value = 0
    for number in reversed(poly):
        value = value * k + number
    return value
