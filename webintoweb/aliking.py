"""Whether two webs are alike, with a paper."""

from webintoweb.finding import led
from webintoweb.leadings import full_lists


def alike_told(W, V):
    """An alike paper of W and V: either that they are, or that they are not."""
    first = led(W, V, full_lists(W, V))
    if first[0] == "none":
        return ("not", 0, first[1])
    last = led(V, W, full_lists(V, W))
    if last[0] == "none":
        return ("not", 1, last[1])
    return ("alike", first[1], last[1])
