"""What several test files use: webs to ask about, things spoiled, and calls that are looked at closely."""

import copy
import itertools
import random
import unittest

from webintoweb import errors

REFUSALS = (
    errors.NoText, errors.NoPaper, errors.TooMany, errors.NoCore, errors.NoLeast,
    errors.NoPairs, errors.NoBar, errors.NoHold, errors.NoLevel, errors.NoRow,
)

FIELDS = {
    errors.NoText: ("row", "word"),
    errors.NoPaper: ("path", "word", "number"),
    errors.TooMany: ("word",),
    errors.NoCore: ("place", "word"),
    errors.NoLeast: ("word",),
    errors.NoPairs: ("number", "word"),
    errors.NoBar: ("word",),
    errors.NoHold: ("place", "number"),
    errors.NoLevel: (),
    errors.NoRow: ("row",),
}


def nested(depth, kind):
    """A thing of depth lists or tuples within one another."""
    thing = kind()
    for _ in range(depth - 1):
        thing = kind([thing])
    return thing


# Plain things of every kind that are no web, no leading of some places, no lists, no classes of some.
JUNK = (
    None, True, False, 0, 1, -1, 7, 10 ** 200 - 1, "", "0", "web", "web 0", "none", "01",
    [], [[]], [()], ([],), (None,), (True,), (False,), ("",), ("0",), (0, None), (None, ()), ((), 0),
    [0, ()], [0, []], (0, []), (1, [(0, 0)]), (1, ([0, 0],)), (1, "00"), ("1", ()), (True, ()), (False, ()),
    (-1, ()), (-1,), ((-1,),), ((0, 0, 0),), ((0, 0),) * 2, nested(100, tuple), nested(100, list),
    [0] * 5000, tuple([0] * 5000),
)


def web(n, *ties):
    """A web written by hand."""
    return (n, tuple(ties))


def all_webs(n):
    """Every web of n places."""
    pairs = list(itertools.product(range(n), repeat=2))
    return [
        (n, tuple(pair for pair, chosen in zip(pairs, choice) if chosen))
        for choice in itertools.product((False, True), repeat=len(pairs))
    ]


def some_web(chance, n, thick):
    """A web of n places, each tie with thick chances in ten."""
    pairs = itertools.product(range(n), repeat=2)
    return (n, tuple(pair for pair in pairs if chance.randrange(10) < thick))


def some_webs(seed, many, most):
    """Webs of up to most places, the same ones each time."""
    chance = random.Random(seed)
    return [some_web(chance, chance.randrange(most + 1), chance.randrange(1, 10)) for _ in range(many)]


def some_lists(chance, W, V, thick=7):
    """Lists of W into V, each place with thick chances in ten."""
    return tuple(tuple(x for x in range(V[0]) if chance.randrange(10) < thick) for _ in range(W[0]))


def all_tuples(W, V):
    """Every tuple with a place of V for each place of W, rising."""
    return list(itertools.product(range(V[0]), repeat=W[0]))


def leads(W, V, f):
    """Whether a tuple of places is a leading, by its very words."""
    return all((f[a], f[b]) in V[1] for a, b in W[1])


def all_led(W, V, lists=None):
    """Every leading that keeps the lists, by going through all tuples of them."""
    if lists is None:
        lists = (tuple(range(V[0])),) * W[0]
    return [f for f in itertools.product(*lists) if leads(W, V, f)]


def spoiled(thing):
    """Things that are unlike thing by kind at one place, at whatever depth."""
    if isinstance(thing, bool) or thing is None:
        return [7, "x", ()]
    if isinstance(thing, int):
        return [None, str(thing), (thing,), [thing]] + ([bool(thing)] if thing in (0, 1) else [])
    if isinstance(thing, str):
        return [None, 0, True, [thing], (thing,), thing + "x"]
    found = [None, True, "text", 7, list(thing)]
    for k, inner in enumerate(thing):
        found.extend(thing[:k] + (other,) + thing[k + 1:] for other in spoiled(inner))
    return found


class Promise(unittest.TestCase):
    """Calls that are made twice, and looked at for what they do to what they are handed."""

    def same(self, told, due):
        """Alike in kinds, too: a list is no tuple, True is no 1."""
        self.assertEqual(repr(told), repr(due))

    def told(self, asked, *things):
        """What is told, which is the same a second time, whatever its asker does to the first one."""
        before = copy.deepcopy(things)
        first = asked(*things)
        kept = copy.deepcopy(first)
        if isinstance(first, list):
            first.append("changed by its asker")
        second = asked(*things)
        self.same(second, kept)
        self.same(things, before)
        return second

    def tells(self, due, asked, *things):
        self.same(self.told(asked, *things), due)

    def refuses(self, kind, fields, asked, *things):
        """It is refused by that class and no other one, with these fields, and changes nothing."""
        before = copy.deepcopy(things)
        for _ in range(2):
            with self.assertRaises(errors.WebError) as caught:
                asked(*things)
            self.is_refusal(caught.exception, kind, fields)
            self.same(things, before)

    def is_refusal(self, refusal, kind, fields):
        self.assertIsInstance(refusal, ValueError)
        for other in REFUSALS:
            self.assertEqual(isinstance(refusal, other), other is kind, other)
        self.same(tuple(getattr(refusal, name) for name in FIELDS[kind]), fields)
