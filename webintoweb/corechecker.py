"""Looks at papers that a web is a core, and at papers that tell its least web. It seeks nothing."""

from webintoweb.errors import NoCore, NoLeast, NoPaper
from webintoweb.leadings import hit, is_leading
from webintoweb.nonechecker import lets_none
from webintoweb.plain import are_rising
from webintoweb.webs import part


def lets_core(web, thing):
    """True where any plain thing is a core paper of the web."""
    if not isinstance(thing, tuple) or len(thing) != web[0]:
        raise NoCore(-1, "shape")
    for p, paper in enumerate(thing):
        look_at_missed(web, p, paper)
    return True


def look_at_missed(web, p, paper):
    """Refuses what is no none paper of the web into itself without p."""
    try:
        lets_none(web, web, lists_without(web, p), paper)
    except NoPaper as refusal:
        raise NoCore(p, refusal.word) from None


def lists_without(web, p):
    """The lists of the web into itself each of which is all places but p."""
    return (tuple([x for x in range(web[0]) if x != p]),) * web[0]


def lets_least(web, thing):
    """True where any plain thing is a least paper of the web."""
    if not isinstance(thing, tuple) or len(thing) != 3 or not are_rising(thing[0], web[0]):
        raise NoLeast("shape")
    kept, f, papers = thing
    if not folds(web, kept, f):
        raise NoLeast("leading")
    try:
        lets_core(part(web, kept), papers)
    except NoCore:
        raise NoLeast("core") from None
    return True


def folds(web, kept, f):
    """Whether f is a leading of the web into itself that leads just to the kept places, and these to themselves."""
    return is_leading(web, web, f) and hit(f) == kept and all(f[a] == a for a in kept)
