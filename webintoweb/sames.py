"""Whether two webs are the same up to names, with these or with a paper."""

from webintoweb.closing import possible_strikes
from webintoweb.finding import sought
from webintoweb.leadings import full_lists
from webintoweb.unlikechecker import COUNTS, are_counts_like


def same_told(one, other):
    """("same", names), or ("unlike", paper)."""
    if not are_counts_like(one, other):
        return ("unlike", COUNTS)
    possible = possible_strikes(one, other) + else_strikes(one, other)
    word, told = sought(possible, {tie: True for tie in other[1]}, full_lists(one, other))
    # By as many places and ties, a leading with unlike images for unlike places is names.
    return ("same" if word == "leading" else "unlike", told)


def else_strikes(one, other):
    """All strikes by which no two places are led to one."""
    n = one[0]
    return [(a, x, b, "else") for a in range(n) for b in range(n) if a != b for x in range(other[0])]
