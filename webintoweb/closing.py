"""Lists struck as long as any strike goes."""

from webintoweb.strikes import must_go, struck


def closed(W, V, lists):
    """The greatest closed lists within the lists."""
    return closing_and_lists(W, V, lists)[1]


def closing_of(W, V, lists):
    """Strikes that go one behind another, from the lists to the closed ones."""
    return closing_and_lists(W, V, lists)[0]


def closing_and_lists(W, V, lists):
    """A closing, and the closed lists that it leaves."""
    return closed_by(possible_strikes(W, V), {tie: True for tie in V[1]}, lists)


def closed_by(possible, ties, lists):
    """Those of the possible strikes that go one behind another until none goes, and the lists that they leave."""
    strikes = []
    before = -1
    # A strike that does not go may go behind others: so all are tried again until a round brings none.
    while len(strikes) > before:
        before = len(strikes)
        for strike in possible:
            if must_go(ties, lists, strike):
                strikes.append(strike)
                lists = struck(lists, strike)
    return (tuple(strikes), lists)


def possible_strikes(W, V):
    """All strikes that are along a tie of W."""
    found = []
    for a, b in W[1]:
        for x in range(V[0]):
            found.append((a, x, b, "out"))
            found.append((b, x, a, "in"))
    return found
