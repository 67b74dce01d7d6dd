"""The first leading that keeps the lists, or a paper that none does."""

from webintoweb.closing import closed_by, closing_and_lists, possible_strikes
from webintoweb.plain import with_list


def led(W, V, lists):
    """("leading", f), f the first leading that keeps the lists, or ("none", paper)."""
    return sought(possible_strikes(W, V), {tie: True for tie in V[1]}, lists)


def sought(possible, ties, lists):
    """("leading", f), f the first that keeps the lists and that no possible strike bars, or ("none", paper)."""
    strikes, lists = closed_by(possible, ties, lists)
    if () in lists:
        return ("none", (strikes, ("void", lists.index(()))))
    a = first_open(lists)
    if a is None:
        # Closed lists of one thing each leave nothing that a possible strike would take.
        return ("leading", tuple([places[0] for places in lists]))
    parts = []
    # Places by their order, and things as they rise: what is found first is the first of all.
    for x in lists[a]:
        told = sought(possible, ties, with_list(lists, a, (x,)))
        if told[0] == "leading":
            return told
        parts.append(told[1])
    return ("none", (strikes, ("cases", a, tuple(parts))))


def first_open(lists):
    """The first place whose list has more than one thing, or None."""
    for a, places in enumerate(lists):
        if len(places) > 1:
            return a
    return None


def void_paper(W, V, lists):
    """A none paper by closing alone, or None where no closed list is void."""
    strikes, lists = closing_and_lists(W, V, lists)
    if () not in lists:
        return None
    return (strikes, ("void", lists.index(())))
