"""Whether pairs are left wherever two places stand, with the closed table or with a paper."""

from webintoweb.pairclosing import first_table, joined, struck_table


def pairs_told(one, other, lists):
    """("table", table), the closed one where pairs stand everywhere in it, or ("none", paper), a pair paper."""
    table = first_table(one, other, lists)
    strikes = []
    before = -1
    # A pair that stays may go behind others: so all are tried again until a round brings no strike.
    while len(strikes) > before:
        before = len(strikes)
        for a, b, c in threes(one[0]):
            found = strikes_at(table, a, b, c)
            strikes.extend(found)
            for strike in found:
                table = struck_table(table, strike)
    void = first_void(table)
    if void is None:
        return ("table", table)
    return ("none", (tuple(strikes), void[0], void[1]))


def threes(n):
    """All threes of n places."""
    return [(a, b, c) for a in range(n) for b in range(n) for c in range(n)]


def strikes_at(table, a, b, c):
    """The strikes by which pairs go at a, b because of c; each of them goes behind the others, too."""
    pairs = table[a][b]
    kept = joined(table[a][c], table[c][b], pairs)
    return [(a, b, x, y, c) for x, y in pairs if (x, y) not in kept]


def first_void(table):
    """The first two places at which no pair stands, or None."""
    for a, row in enumerate(table):
        if () in row:
            return (a, row.index(()))
    return None
