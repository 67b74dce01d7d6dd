"""Looks at papers that a web is led into a round, a line or all of two, or isn't. It seeks nothing."""

from webintoweb.errors import NoPaper
from webintoweb.families import all_web, line_web, round_web
from webintoweb.leadings import are_images, is_leading
from webintoweb.walks import goes_by_ties, is_closed, is_walk_by_kind, long_of, net_of


def lets_round(web, k, thing):
    """True where any plain thing is a round paper of the web and k."""
    look_at_ties(web, round_web(k), thing)
    if thing[0] == "walk":
        look_at_closed(thing[1])
        if net_of(thing[1]) % k == 0:
            raise NoPaper((), "net")
    return True


def lets_line(web, k, thing):
    """True where any plain thing is a line paper of the web and k."""
    if has_word(thing, "walk"):
        # Its places alone are told: each step goes along a tie.
        thing = ("walk", (thing[1], "+" * k))
    look_at_ties(web, line_web(k), thing)
    return True


def lets_two(web, thing):
    """True where any plain thing is a two paper of the web."""
    look_at_ties(web, all_web(2), thing)
    if thing[0] == "walk":
        look_at_closed(thing[1])
        if long_of(thing[1]) % 2 == 0:
            raise NoPaper((), "odd")
    return True


def look_at_ties(web, V, thing):
    """Refuses what is neither a leading into V nor a walk, by kind, or goes where no tie is."""
    if has_word(thing, "leading") and are_images(web, V, thing[1]):
        goes = is_leading(web, V, thing[1])
    elif has_word(thing, "walk") and is_walk_by_kind(web, thing[1]):
        goes = goes_by_ties(web, thing[1])
    else:
        raise NoPaper((), "shape")
    if not goes:
        raise NoPaper((), "tie")


def has_word(thing, word):
    """Whether thing is a tuple of the word and one thing more."""
    return isinstance(thing, tuple) and len(thing) == 2 and thing[0] == word


def look_at_closed(walk):
    """Refuses a walk that doesn't end where it begins."""
    if not is_closed(walk):
        raise NoPaper((), "closed")
