"""Leadings of webs into webs, and the lists that they keep."""

from webintoweb.plain import are_rising, is_place


def is_leading(W, V, thing):
    """Whether any plain thing is a leading of W into V."""
    if not are_images(W, V, thing):
        return False
    ties = set(V[1])
    for a, b in W[1]:
        if (thing[a], thing[b]) not in ties:
            return False
    return True


def are_images(W, V, thing):
    """Whether thing is a tuple with a place of V for each place of W."""
    if not isinstance(thing, tuple) or len(thing) != W[0]:
        return False
    return all(is_place(x, V[0]) for x in thing)


def are_lists(W, V, thing):
    """Whether any plain thing is lists of W into V."""
    if not isinstance(thing, tuple) or len(thing) != W[0]:
        return False
    return all(are_rising(places, V[0]) for places in thing)


def full_lists(W, V):
    """The lists that have all places of V everywhere."""
    return (tuple(range(V[0])),) * W[0]


def met_lists(one, other):
    """For each place what is in both its lists."""
    return tuple([in_both(first, last) for first, last in zip(one, other)])


def in_both(first, last):
    """The places of the first tuple that are in the last one, too."""
    return tuple([x for x in first if x in last])


def ends_kept(W, V, pairs):
    """The lists in which a's is (x,) alone for each pair (a, x)."""
    lists = list(full_lists(W, V))
    for a, x in pairs:
        lists[a] = in_both(lists[a], (x,))
    return tuple(lists)


def keeps(lists, f):
    """Whether f leads each place to one of its list."""
    return all(x in places for x, places in zip(f, lists))


def behind(f, g):
    """g behind f."""
    return tuple([g[x] for x in f])


def itself(W):
    """The leading of W that leads each place to itself."""
    return tuple(range(W[0]))


def hit(f):
    """The places to which f leads, rising."""
    return tuple(sorted(set(f)))


def is_onto(V, f):
    """Whether f leads to all places of V."""
    return hit(f) == itself(V)


def classes_of(f):
    """The places that f leads to one place, for all of them, by their first places."""
    found = {}
    for a, x in enumerate(f):
        found.setdefault(x, []).append(a)
    return tuple([tuple(places) for places in found.values()])


def is_one_to_one(f):
    """Whether f leads unlike places to unlike ones."""
    return len(hit(f)) == len(f)
