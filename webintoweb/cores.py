"""Cores and least webs, with papers, and turnings."""

from webintoweb.corechecker import lists_without
from webintoweb.counting import all_leadings
from webintoweb.finding import led
from webintoweb.leadings import full_lists, hit, is_one_to_one, itself
from webintoweb.turnings import again, still_number
from webintoweb.webs import part


def core_told(web):
    """("core", papers), a core paper, or ("lesser", f), a leading of the web into itself that isn't onto."""
    papers = []
    for p in range(web[0]):
        told = led(web, web, lists_without(web, p))
        if told[0] == "leading":
            return ("lesser", told[1])
        papers.append(told[1])
    return ("core", tuple(papers))


def all_turnings(web):
    """The list of all turnings of the web, rising."""
    return [f for f in all_leadings(web, web, full_lists(web, web)) if is_one_to_one(f)]


def least_told(web):
    """A least paper of the web."""
    kept = itself(web)
    f = kept
    told = core_told(web)
    while told[0] == "lesser":
        # So often again it leads what it hits to itself, and still isn't onto.
        still = again(told[1], still_number(told[1]))
        f = tuple([kept[still[kept.index(x)]] for x in f])
        kept = hit(f)
        told = core_told(part(web, kept))
    return (kept, f, told[1])


def least_web(web):
    """The part of the web on the places that a least paper of it keeps."""
    return part(web, least_told(web)[0])
