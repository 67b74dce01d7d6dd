"""Tables of the pairs that places may be led to two by two, and their strikes."""

from webintoweb.plain import is_place, is_whole, with_list
from webintoweb.webs import has_tie


def first_table(one, other, lists):
    """The table of all pairs that the lists and the ties between two places let stand."""
    ties = {tie: True for tie in other[1]}
    n = one[0]
    return tuple([tuple([first_pairs(one, ties, lists, a, b) for b in range(n)]) for a in range(n)])


def first_pairs(one, ties, lists, a, b):
    """The pairs that stand at a, b in the first table."""
    pairs = [(x, y) for x in lists[a] for y in lists[b] if a != b or x == y]
    if has_tie(one, a, b):
        pairs = [(x, y) for x, y in pairs if (x, y) in ties]
    if has_tie(one, b, a):
        pairs = [(x, y) for x, y in pairs if (y, x) in ties]
    return tuple(pairs)


def closed_table(one, other, lists):
    """The first table, struck as long as any strike goes."""
    table = first_table(one, other, lists)
    before = None
    while table != before:
        before = table
        table = struck_once(table)
    return table


def struck_once(table):
    """The table without all pairs for which a strike goes."""
    n = len(table)
    return tuple([tuple([pairs_left(table, a, b) for b in range(n)]) for a in range(n)])


def pairs_left(table, a, b):
    """The pairs at a, b for which no strike goes."""
    pairs = table[a][b]
    for c in range(len(table)):
        pairs = joined(table[a][c], table[c][b], pairs)
    return pairs


def joined(first, last, pairs):
    """Those of pairs (x, y) for which some z has (x, z) in first and (z, y) in last."""
    ends = {}
    for z, y in last:
        ends.setdefault(z, []).append(y)
    through = {(x, y): True for x, z in first for y in ends.get(z, ())}
    return tuple([pair for pair in pairs if pair in through])


def is_strike(table, thing):
    """Whether any plain thing is a strike of the table."""
    if not isinstance(thing, tuple) or len(thing) != 5:
        return False
    a, b, x, y, c = thing
    if not all(is_place(place, len(table)) for place in (a, b, c)) or not is_whole(x) or not is_whole(y):
        return False
    return (x, y) in table[a][b] and joined(table[a][c], table[c][b], ((x, y),)) == ()


def struck_table(table, strike):
    """The table without what the strike takes away."""
    a, b, x, y = strike[:4]
    return without_pair(without_pair(table, a, b, (x, y)), b, a, (y, x))


def without_pair(table, a, b, pair):
    """The table in which the pair stands no more at a, b."""
    return with_list(table, a, with_list(table[a], b, tuple([other for other in table[a][b] if other != pair])))
