"""Trees that bar every leading, or the closed lists."""

from webintoweb.closing import closing_and_lists
from webintoweb.strikes import has_end


def bar_told(one, other, lists):
    """("bar", tree), a tree without images, where some closed list is void, else ("lists", lists), the closed ones."""
    strikes, left = closing_and_lists(one, other, lists)
    if () not in left:
        return ("lists", left)
    a = left.index(())
    branches = branches_by(other, lists, strikes)
    return ("bar", (a, together([branches[(a, x)] for x in lists[a]])))


def branches_by(other, lists, strikes):
    """For each place a and thing x that was struck there a branch that bars x at a."""
    ties = {tie: True for tie in other[1]}
    branches = {}
    for a, x, b, way in strikes:
        # All that x would need at b was struck ahead: so it is barred there by branches that are known.
        needed = [branches[(b, y)] for y in lists[b] if has_end(ties, x, (y,), way)]
        branches[(a, x)] = (way, (b, together(needed)))
    return branches


def together(branches):
    """The branches as one tuple, each once."""
    found = []
    for branch in branches:
        if branch not in found:
            found.append(branch)
    return tuple(found)
