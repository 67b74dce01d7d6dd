"""Which webs are below which ones, and which are alike."""

from webintoweb.finding import led
from webintoweb.leadings import classes_of, full_lists


def below_table(webs):
    """For each web a tuple of truths: whether it is below each of them."""
    return tuple([tuple([is_below(W, V) for V in webs]) for W in webs])


def is_below(W, V):
    """Whether W is led into V."""
    return led(W, V, full_lists(W, V))[0] == "leading"


def classes(webs):
    """The lists of the numbers of webs that are alike, by their first numbers."""
    table = below_table(webs)
    firsts = [first_alike(table, j) for j in range(len(webs))]
    return [list(numbers) for numbers in classes_of(firsts)]


def first_alike(table, j):
    """The number of the first web that is alike to web j."""
    return min([k for k in range(len(table)) if table[j][k] and table[k][j]])
