"""Looks at papers that no leading keeps the lists, by pairs. It seeks nothing."""

from webintoweb.errors import NoPairs
from webintoweb.pairclosing import first_table, is_strike, struck_table
from webintoweb.plain import is_place


def lets_pairs(one, other, lists, thing):
    """True where any plain thing is a pair paper of both webs and the lists."""
    if not is_pair_paper_by_kind(one, thing):
        raise NoPairs(-1, "shape")
    strikes, a, b = thing
    table = first_table(one, other, lists)
    for k, strike in enumerate(strikes):
        if not is_strike(table, strike):
            raise NoPairs(k, "strike")
        table = struck_table(table, strike)
    if table[a][b] != ():
        raise NoPairs(len(strikes), "void")
    return True


def is_pair_paper_by_kind(one, thing):
    """Whether thing has a tuple and two places, whatever stands in the tuple."""
    if not isinstance(thing, tuple) or len(thing) != 3 or not isinstance(thing[0], tuple):
        return False
    return is_place(thing[1], one[0]) and is_place(thing[2], one[0])
