"""Looks at papers that show how many leadings keep the lists. It seeks nothing."""

from webintoweb.errors import NoPaper
from webintoweb.nonechecker import is_end_by_kind
from webintoweb.plain import are_rising, with_list
from webintoweb.strikes import WAYS, are_strikes_by_kind, struck_as_far
from webintoweb.webs import part

MOST_NUMBERS = 20


def counted_by(W, V, lists, thing):
    """The count that any plain thing shows where it is a count paper of W, V and the lists."""
    return counted_at(W, V, lists, thing, ())


def counted_at(W, V, lists, thing, path):
    """The count that is shown at path, refused if what stands there, or first what is in it, is amiss."""
    if len(path) > MOST_NUMBERS:
        raise NoPaper(path, "deep")
    if not is_count_paper_by_kind(W, V, thing):
        raise NoPaper(path, "shape")
    strikes, end = thing
    far, lists = struck_as_far(W, V, lists, strikes)
    if far < len(strikes):
        raise NoPaper(path, "strike")
    if end[0] == "all":
        return shown_by_all(W, V, lists, path)
    if end[0] == "void":
        return shown_by_void(lists, end[1], path)
    if end[0] == "cases":
        return shown_by_cases(W, V, lists, end, path)
    return shown_by_apart(W, V, lists, end, path)


def shown_by_all(W, V, lists, path):
    """The product of the lists' lengths, refused where some tie doesn't go whatever its ends are led to."""
    if first_loose(W, V, lists) is not None:
        raise NoPaper(path, "all")
    shown = 1
    for places in lists:
        shown *= len(places)
    return shown


def first_loose(W, V, lists):
    """The first tie of W that some things of its ends' lists don't lead to a tie of V, or None."""
    ties = {tie: True for tie in V[1]}
    for a, b in W[1]:
        # A loop's ends are led to one thing, never to two.
        if not all((x, y) in ties for x in lists[a] for y in lists[b] if a != b or x == y):
            return (a, b)
    return None


def shown_by_void(lists, a, path):
    """0, refused where a's list isn't void."""
    if lists[a] != ():
        raise NoPaper(path, "void")
    return 0


def shown_by_cases(W, V, lists, end, path):
    """The sum of what the parts show, refused where they are not one for each thing of the list."""
    a = end[1]
    parts = end[2]
    if len(parts) != len(lists[a]):
        raise NoPaper(path, "cases")
    shown = 0
    for k, x in enumerate(lists[a]):
        shown += counted_at(W, V, with_list(lists, a, (x,)), parts[k], path + (k,))
    return shown


def shown_by_apart(W, V, lists, end, path):
    """What both halves show, multiplied, refused where there is a tie between them."""
    places = end[1]
    if any((a in places) != (b in places) for a, b in W[1]):
        raise NoPaper(path, "apart")
    others = tuple([a for a in range(W[0]) if a not in places])
    first = shown_on(W, V, lists, places, end[2], path + (0,))
    # The other half is looked at even where the first one shows 0.
    return first * shown_on(W, V, lists, others, end[3], path + (1,))


def shown_on(W, V, lists, places, thing, path):
    """The count that thing shows of W's part on places, by their lists."""
    return counted_at(part(W, places), V, tuple([lists[a] for a in places]), thing, path)


def is_count_paper_by_kind(W, V, thing):
    """Whether thing has strikes and an end, whatever its parts are."""
    if not isinstance(thing, tuple) or len(thing) != 2:
        return False
    end = thing[1]
    if end != ("all",) and not is_apart_by_kind(W, end) and not is_end_by_kind(W, end):
        return False
    return are_strikes_by_kind(W, V, thing[0], WAYS)


def is_apart_by_kind(W, thing):
    """Whether thing tells some places of W, not all, and two more things, whatever these are."""
    if not isinstance(thing, tuple) or len(thing) != 4 or thing[0] != "apart":
        return False
    return are_rising(thing[1], W[0]) and 0 < len(thing[1]) < W[0]
