"""Papers that show how many leadings keep the lists."""

from webintoweb.closing import closing_and_lists
from webintoweb.countchecker import first_loose
from webintoweb.plain import with_list


def count_paper(W, V, lists):
    """A count paper of W, V and the lists."""
    strikes, lists = closing_and_lists(W, V, lists)
    if () in lists:
        return (strikes, ("void", lists.index(())))
    tie = first_loose(W, V, lists)
    if tie is None:
        return (strikes, ("all",))
    # Where the list of one end has one thing alone, all that is left at the other end fits it: so both have more. Each
    # case leaves one list fewer that has more, and the bound of the lists' product lets few have: no path grows long.
    a = tie[0]
    parts = [count_paper(W, V, with_list(lists, a, (x,))) for x in lists[a]]
    return (strikes, ("cases", a, tuple(parts)))
