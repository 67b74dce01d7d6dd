"""Trees of a web, and their images in another one."""

from webintoweb.plain import is_place
from webintoweb.strikes import WAYS, has_end

MOST_TREES = 10000
MOST_WITHIN = 30


def is_tree(web, thing):
    """Whether any plain thing is a tree of the web."""
    if not is_node(web[0], thing):
        return False
    ties = {tie: True for tie in web[1]}
    trees = [thing]
    many = 1
    # Level by level, so that what is too deep or too many is left as soon as that is seen.
    for level in range(MOST_WITHIN):
        inner = []
        for a, branches in trees:
            many += len(branches)
            if many > MOST_TREES or not all(is_branch(web[0], ties, a, branch) for branch in branches):
                return False
            inner.extend([tree for way, tree in branches])
        trees = inner
    return trees == []


def is_node(n, thing):
    """Whether thing is one of n places and a tuple, whatever stands in that."""
    if not isinstance(thing, tuple) or len(thing) != 2:
        return False
    return is_place(thing[0], n) and isinstance(thing[1], tuple)


def is_branch(n, ties, a, thing):
    """Whether thing is a way and a node that has a tie with a by that way, whatever the node's branches are."""
    if not isinstance(thing, tuple) or len(thing) != 2 or not is_node(n, thing[1]):
        return False
    b = thing[1][0]
    return thing[0] in WAYS and has_end(ties, a, (b,), thing[0])


def images(one, other, lists, tree):
    """The images of a tree of one in other by the lists, rising."""
    return images_by({tie: True for tie in other[1]}, lists, tree)


def images_by(ties, lists, tree):
    """The things of the list at the tree's place that have a tie with some image of each branch."""
    a, branches = tree
    found = lists[a]
    for way, inner in branches:
        ends = images_by(ties, lists, inner)
        found = tuple([x for x in found if has_end(ties, x, ends, way)])
    return found
