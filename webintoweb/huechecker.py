"""Looks at papers that tell how many hues a web needs, and at trees that show its poly. It seeks nothing."""

from webintoweb.errors import NoPaper
from webintoweb.families import all_web
from webintoweb.hues import FREE, LOOP, merged, taken_out, tree_poly
from webintoweb.leadings import are_images, full_lists, is_leading
from webintoweb.nonechecker import lets_none
from webintoweb.plain import is_place
from webintoweb.webs import has_tie, loops

MOST_HUES = 6


def lets_hues(web, thing):
    """True where any plain thing is a hues paper of the web."""
    if is_loop_by_kind(web, thing):
        return lets_loop(web, thing[1])
    if not are_hues_by_kind(web, thing):
        raise NoPaper((), "shape")
    word, k, f, paper = thing
    if not is_leading(web, all_web(k), f):
        raise NoPaper((), "tie")
    if k > 0:
        return lets_none(web, all_web(k - 1), full_lists(web, all_web(k - 1)), paper)
    if paper is not None:
        raise NoPaper((), "none")
    return True


def is_loop_by_kind(web, thing):
    """Whether thing says of a place that it has a loop."""
    return isinstance(thing, tuple) and len(thing) == 2 and thing[0] == "loop" and is_place(thing[1], web[0])


def lets_loop(web, a):
    """True where a has a loop."""
    if not has_tie(web, a, a):
        raise NoPaper((), "loop")
    return True


def are_hues_by_kind(web, thing):
    """Whether thing tells a count of hues, one of them for each place, and whatever else."""
    if not isinstance(thing, tuple) or len(thing) != 4 or thing[0] != "hues":
        return False
    return is_place(thing[1], MOST_HUES + 1) and are_images(web, all_web(thing[1]), thing[2])


def shown_by(web, thing):
    """The poly that any plain thing shows where it is a hue tree of the web."""
    look_at_tree(web, thing, ())
    return tree_poly(web[0], thing)


def look_at_tree(web, thing, path):
    """Refuses what stands at path if it, or first what is in it, is amiss."""
    if thing == FREE:
        if web[1] != ():
            raise NoPaper(path, "free")
    elif thing == LOOP:
        if loops(web) == ():
            raise NoPaper(path, "loop")
    elif is_tie_by_kind(web, thing):
        look_at_tie(web, thing, path)
    else:
        raise NoPaper(path, "shape")


def is_tie_by_kind(web, thing):
    """Whether thing tells two places, the lesser one first, and two things more, whatever these are."""
    if not isinstance(thing, tuple) or len(thing) != 5 or thing[0] != "tie":
        return False
    return is_place(thing[1], web[0]) and is_place(thing[2], web[0]) and thing[1] < thing[2]


def look_at_tie(web, thing, path):
    """Refuses two places without a tie between them, or what is amiss in the trees without it and drawn together."""
    word, a, b, first, second = thing
    if not has_tie(web, a, b) and not has_tie(web, b, a):
        raise NoPaper(path, "tie")
    look_at_tree(taken_out(web, a, b), first, path + (0,))
    look_at_tree(merged(web, a, b), second, path + (1,))
