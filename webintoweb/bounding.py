"""Least webs above webs and greatest ones below them, with papers."""

from webintoweb.errors import TooMany
from webintoweb.leadings import behind, itself
from webintoweb.together import NO_PLACES, ONE_LOOP, paired, paired_first, paired_last, side, side_last
from webintoweb.webs import MOST_PLACES


def above_told(webs):
    """(S, paper): S, all webs side by side, is a least one above them."""
    S = NO_PLACES
    fs = []
    for web in webs:
        # The places that are there already stay themselves, so the leadings ahead stay, too.
        fs.append(side_last(S, web))
        S = side(S, web)
    return (S, (tuple(fs), itself(S)))


def below_told(webs):
    """(S, paper): S, all webs in pairs, is a greatest one below them."""
    many = 1
    for web in webs:
        many *= web[0]
    if many > MOST_PLACES:
        raise TooMany("places")
    S = ONE_LOOP
    fs = []
    for web in webs:
        fs = [behind(paired_first(S, web), f) for f in fs] + [paired_last(S, web)]
        S = paired(S, web)
    return (S, (tuple(fs), itself(S)))
