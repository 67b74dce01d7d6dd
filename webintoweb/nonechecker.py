"""Looks at papers that say that no leading keeps the lists. It seeks nothing."""

from webintoweb.errors import NoPaper
from webintoweb.plain import is_place, with_list
from webintoweb.strikes import WAYS, are_strikes_by_kind, struck_as_far


def lets_none(W, V, lists, thing):
    """True where any plain thing is a none paper of W, V and the lists."""
    look_at(W, V, lists, thing, (), WAYS)
    return True


def look_at(W, V, lists, thing, path, ways):
    """Refuses what stands at path, with strikes of these ways, if it, or first what is in it, is amiss."""
    if not is_paper_by_kind(W, V, thing, ways):
        raise NoPaper(path, "shape", -1)
    strikes, end = thing
    far, lists = struck_as_far(W, V, lists, strikes)
    if far < len(strikes):
        raise NoPaper(path, "strike", far)
    if end[0] == "void":
        look_at_void(lists, end[1], path)
    else:
        look_at_cases(W, V, lists, end, path, ways)


def look_at_void(lists, a, path):
    """Refuses an end that says of a list that isn't void that it is."""
    if lists[a] != ():
        raise NoPaper(path, "void", a)


def look_at_cases(W, V, lists, end, path, ways):
    """Refuses cases that are not one part for each thing of the list, or parts that are amiss."""
    a = end[1]
    parts = end[2]
    if len(parts) != len(lists[a]):
        raise NoPaper(path, "parts", len(lists[a]))
    for k, x in enumerate(lists[a]):
        look_at(W, V, with_list(lists, a, (x,)), parts[k], path + (k,), ways)


def is_paper_by_kind(W, V, thing, ways):
    """Whether thing has strikes and an end, whatever its parts are."""
    if not isinstance(thing, tuple) or len(thing) != 2:
        return False
    return are_strikes_by_kind(W, V, thing[0], ways) and is_end_by_kind(W, thing[1])


def is_end_by_kind(W, thing):
    """Whether thing is an end of a paper, whatever its parts are."""
    if not isinstance(thing, tuple) or len(thing) < 2 or not is_place(thing[1], W[0]):
        return False
    if len(thing) == 2:
        return thing[0] == "void"
    return len(thing) == 3 and thing[0] == "cases" and isinstance(thing[2], tuple)
