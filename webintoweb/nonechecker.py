"""Looks at papers that say that no leading keeps the lists. It seeks nothing."""

from webintoweb.errors import NoPaper
from webintoweb.plain import is_place, with_list
from webintoweb.strikes import WAYS, are_strikes_by_kind, struck_as_far


def lets_none(W, V, lists, thing):
    """True where any plain thing is a none paper of W, V and the lists."""
    look_at(W, V, lists, thing, WAYS)
    return True


def look_at(W, V, lists, thing, ways):
    """Refuses the first paper amiss of thing and all that is in it, with strikes of these ways."""
    # The papers still ahead, the next one last: so a row of lines may write cases however deep.
    ahead = [((), lists, thing)]
    while ahead:
        path, before, paper = ahead.pop()
        if not is_paper_by_kind(W, V, paper, ways):
            raise NoPaper(path, "shape", -1)
        strikes, end = paper
        far, left = struck_as_far(W, V, before, strikes)
        if far < len(strikes):
            raise NoPaper(path, "strike", far)
        if end[0] == "void":
            look_at_void(left, end[1], path)
        else:
            ahead.extend(parts_ahead(left, end[1], end[2], path)[::-1])


def look_at_void(lists, a, path):
    """Refuses an end that says of a list that isn't void that it is."""
    if lists[a] != ():
        raise NoPaper(path, "void", a)


def parts_ahead(lists, a, parts, path):
    """The parts, each with its path and its lists, refused where they are not one for each thing of a's list."""
    if len(parts) != len(lists[a]):
        raise NoPaper(path, "parts", len(lists[a]))
    return [(path + (k,), with_list(lists, a, (x,)), parts[k]) for k, x in enumerate(lists[a])]


def is_paper_by_kind(W, V, thing, ways):
    """Whether thing has strikes and an end, whatever its parts are."""
    if not isinstance(thing, tuple) or len(thing) != 2:
        return False
    return are_strikes_by_kind(W, V, thing[0], ways) and is_end_by_kind(W, thing[1])


def is_end_by_kind(W, thing):
    """Whether thing is an end of a paper, whatever its parts are."""
    if not isinstance(thing, tuple) or len(thing) < 2 or not is_place(thing[1], W[0]):
        return False
    if len(thing) == 2:
        return thing[0] == "void"
    return len(thing) == 3 and thing[0] == "cases" and isinstance(thing[2], tuple)
