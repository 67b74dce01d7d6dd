"""What several test files use: webs to ask about, things spoiled, and calls that are looked at closely."""

import copy
import itertools
import math
import random
import sys
import unittest

from webintoweb import errors

REFUSALS = (
    errors.NoText, errors.NoPaper, errors.TooMany, errors.NoCore, errors.NoLeast,
    errors.NoPairs, errors.NoBar, errors.NoHold, errors.NoLevel, errors.NoRow,
)

FIELDS = {
    errors.NoText: ("row", "word"),
    errors.NoPaper: ("path", "word", "number"),
    errors.TooMany: ("word",),
    errors.NoCore: ("place", "word"),
    errors.NoLeast: ("word",),
    errors.NoPairs: ("number", "word"),
    errors.NoBar: ("word",),
    errors.NoHold: ("place", "number"),
    errors.NoLevel: (),
    errors.NoRow: ("row",),
}

# Words that stand in papers, and those that might stand there in their place.
WORDS_OF = {
    "out": ("out", "in", "else"), "in": ("out", "in", "else"), "else": ("out", "in", "else"),
    "void": ("cases",), "cases": ("void",), "all": ("void",), "apart": ("cases",),
    "alike": ("not",), "not": ("alike",), "counts": ("all",), "leading": ("walk",), "walk": ("leading",),
    "free": ("loop",), "loop": ("free",), "hues": ("loop",), "tie": ("free",),
}

# Ends of papers, and those that might stand there in their place.
ENDS = {
    "void": (("void", 0), ("void", 1), ("cases", 0, ()), ("cases", 1, (((), ("void", 0)),))),
    "cases": (("all",), ("void", 0), ("void", 1), ("cases", 1, ()), ("cases", 0, (((), ("void", 0)),) * 2)),
    "all": (("all",), ("void", 0), ("apart", (0,), ((), ("all",)), ((), ("all",))), ("cases", 0, (((), ("all",)),))),
    "apart": (("all",), ("void", 0), ("apart", (1,), ((), ("all",)), ((), ("all",)))),
}


def nested(depth, kind):
    """A thing of depth lists or tuples within one another."""
    thing = kind()
    for _ in range(depth - 1):
        thing = kind([thing])
    return thing


# Plain things of every kind that are no web, no leading of some places, no lists, no classes of some.
JUNK = (
    None, True, False, 0, 1, -1, 7, 10 ** 200 - 1, "", "0", "web", "web 0", "none", "01",
    [], [[]], [()], ([],), (None,), (True,), (False,), ("",), ("0",), (0, None), (None, ()), ((), 0),
    [0, ()], [0, []], (0, []), (1, [(0, 0)]), (1, ([0, 0],)), (1, "00"), ("1", ()), (True, ()), (False, ()),
    (-1, ()), (-1,), ((-1,),), ((0, 0, 0),), ((0, 0),) * 2, nested(100, tuple), nested(100, list),
    [0] * 5000, tuple([0] * 5000),
)


def web(n, *ties):
    """A web written by hand."""
    return (n, tuple(ties))


# Six places with eight twos of them tied, some both ways.
EIGHT = web(6, (0, 1), (1, 0), (1, 2), (2, 3), (3, 4), (4, 3), (5, 0), (5, 2), (5, 3), (5, 4))


def all_webs(n):
    """Every web of n places."""
    pairs = list(itertools.product(range(n), repeat=2))
    return [
        (n, tuple(pair for pair, chosen in zip(pairs, choice) if chosen))
        for choice in itertools.product((False, True), repeat=len(pairs))
    ]


def some_web(chance, n, thick):
    """A web of n places, each tie with thick chances in ten."""
    pairs = itertools.product(range(n), repeat=2)
    return (n, tuple(pair for pair in pairs if chance.randrange(10) < thick))


def some_webs(seed, many, most):
    """Webs of up to most places, the same ones each time."""
    chance = random.Random(seed)
    return [some_web(chance, chance.randrange(most + 1), chance.randrange(1, 10)) for _ in range(many)]


def some_lists(chance, W, V, thick=7):
    """Lists of W into V, each place with thick chances in ten."""
    return tuple(tuple(x for x in range(V[0]) if chance.randrange(10) < thick) for _ in range(W[0]))


def all_tuples(W, V):
    """Every tuple with a place of V for each place of W, rising."""
    return list(itertools.product(range(V[0]), repeat=W[0]))


def leads(W, V, f):
    """Whether a tuple of places is a leading, by its very words."""
    return all((f[a], f[b]) in V[1] for a, b in W[1])


def all_led(W, V, lists=None):
    """Every leading that keeps the lists, by going through all tuples of them."""
    if lists is None:
        lists = (tuple(range(V[0])),) * W[0]
    return [f for f in itertools.product(*lists) if leads(W, V, f)]


def spoiled(thing):
    """Things that are unlike thing by kind at one place, at whatever depth."""
    if isinstance(thing, bool) or thing is None:
        return [7, "x", ()]
    if isinstance(thing, int):
        return [None, str(thing), (thing,), [thing]] + ([bool(thing)] if thing in (0, 1) else [])
    if isinstance(thing, str):
        return [None, 0, True, [thing], (thing,), thing + "x"]
    found = [None, True, "text", 7, list(thing)]
    for k, inner in enumerate(thing):
        found.extend(thing[:k] + (other,) + thing[k + 1:] for other in spoiled(inner))
    return found


def strike_goes(W, V, lists, strike):
    """Whether a strike goes, by the very words of the document."""
    a, x, b, way = strike
    if x not in lists[a]:
        return False
    if way == "else":
        return b != a and lists[b] == (x,)
    if way == "out":
        return (a, b) in W[1] and not any((x, y) in V[1] for y in lists[b])
    return (b, a) in W[1] and not any((y, x) in V[1] for y in lists[b])


def without(lists, strike):
    """The lists, struck."""
    return put(lists, strike[0], [x for x in lists[strike[0]] if x != strike[1]])


def put(lists, a, places):
    """The lists with places for a's."""
    return tuple(tuple(places) if b == a else row for b, row in enumerate(lists))


def all_strikes(W, V, ways=("out", "in")):
    """All strikes by kind."""
    return list(itertools.product(range(W[0]), range(V[0]), range(W[0]), ways))


def going(W, V, lists, ways=("out", "in")):
    """All strikes that go by the lists."""
    return [strike for strike in all_strikes(W, V, ways) if strike_goes(W, V, lists, strike)]


def some_paper(chance, W, V, lists, ways=("out", "in")):
    """A none paper as anyone might write it, of lists that no leading keeps, or none that these ways let by."""
    strikes = []
    open_places = [a for a in range(W[0]) if len(lists[a]) != 1]
    while going(W, V, lists, ways) and (chance.randrange(3) or not open_places):
        strikes.append(chance.choice(going(W, V, lists, ways)))
        lists = without(lists, strikes[-1])
        open_places = [a for a in range(W[0]) if len(lists[a]) != 1]
    void = [a for a in range(W[0]) if not lists[a]]
    if void and chance.randrange(3):
        return (tuple(strikes), ("void", chance.choice(void)))
    a = chance.choice(void or open_places) if chance.randrange(4) else chance.randrange(W[0])
    return (tuple(strikes), ("cases", a, tuple(
        some_paper(chance, W, V, put(lists, a, (x,)), ways) for x in lists[a])))


def refusal_due(W, V, lists, thing, path=(), ways=("out", "in")):
    """The (path, word, number) with which a thing is refused as a none paper, or None, by the very words."""
    def place(k, n):
        return isinstance(k, int) and not isinstance(k, bool) and k in range(n)

    def kind(strike):
        return isinstance(strike, tuple) and len(strike) == 4 and place(strike[0], W[0]) and \
            place(strike[1], V[0]) and place(strike[2], W[0]) and strike[3] in ways

    def end_kind(end):
        return isinstance(end, tuple) and (
            len(end) == 2 and end[0] == "void" and place(end[1], W[0])
            or len(end) == 3 and end[0] == "cases" and place(end[1], W[0]) and isinstance(end[2], tuple))

    if not isinstance(thing, tuple) or len(thing) != 2 or not isinstance(thing[0], tuple):
        return (path, "shape", -1)
    if not all(map(kind, thing[0])) or not end_kind(thing[1]):
        return (path, "shape", -1)
    for k, strike in enumerate(thing[0]):
        if not strike_goes(W, V, lists, strike):
            return (path, "strike", k)
        lists = without(lists, strike)
    a = thing[1][1]
    if thing[1][0] == "void":
        return (path, "void", a) if lists[a] else None
    if len(thing[1][2]) != len(lists[a]):
        return (path, "parts", len(lists[a]))
    found = [refusal_due(W, V, put(lists, a, (x,)), inner, path + (k,), ways)
             for k, (x, inner) in enumerate(zip(lists[a], thing[1][2]))]
    return next((due for due in found if due), None)


def count_due(W, V, lists, thing, path=()):
    """The count that a thing shows as a count paper, or the (path, word, 0) with which it is refused, by the words."""
    def place(k, n=W[0]):
        return isinstance(k, int) and not isinstance(k, bool) and k in range(n)

    def strike_kind(strike):
        return isinstance(strike, tuple) and len(strike) == 4 and place(strike[0]) and place(strike[1], V[0]) and \
            place(strike[2]) and strike[3] in ("out", "in")

    def rising(places):
        return isinstance(places, tuple) and all(map(place, places)) and list(places) == sorted(set(places))

    def end_kind(end):
        return isinstance(end, tuple) and (
            end == ("all",)
            or len(end) == 2 and end[0] == "void" and place(end[1])
            or len(end) == 3 and end[0] == "cases" and place(end[1]) and isinstance(end[2], tuple)
            or len(end) == 4 and end[0] == "apart" and rising(end[1]) and 0 < len(end[1]) < W[0])

    def worth(own, own_lists, inner, k):
        return count_due(own, V, own_lists, inner, path + (k,))

    if len(path) > 20:
        return (path, "deep", 0)
    if not isinstance(thing, tuple) or len(thing) != 2 or not isinstance(thing[0], tuple):
        return (path, "shape", 0)
    if not all(map(strike_kind, thing[0])) or not end_kind(thing[1]):
        return (path, "shape", 0)
    for strike in thing[0]:
        if not strike_goes(W, V, lists, strike):
            return (path, "strike", 0)
        lists = without(lists, strike)
    word, *rest = thing[1]
    if word == "all":
        fits = all((x, y) in V[1] for a, b in W[1] for x in lists[a] for y in lists[b] if a != b or x == y)
        return math.prod(map(len, lists)) if fits else (path, "all", 0)
    if word == "void":
        return (path, "void", 0) if lists[rest[0]] else 0
    if word == "cases":
        a, parts = rest
        if len(parts) != len(lists[a]):
            return (path, "cases", 0)
        found = [worth(W, put(lists, a, (x,)), inner, k) for k, (x, inner) in enumerate(zip(lists[a], parts))]
    else:
        places, *halves = rest
        if any(len({a, b} & set(places)) == 1 for a, b in W[1] if a != b):
            return (path, "apart", 0)
        others = [a for a in range(W[0]) if a not in places]
        found = [worth((len(own), tuple((own.index(a), own.index(b)) for a, b in W[1] if a in own and b in own)),
                       tuple(lists[a] for a in own), half, k)
                 for k, (own, half) in enumerate(zip((list(places), others), halves))]
    amiss = [due for due in found if not isinstance(due, int)]
    if amiss:
        return amiss[0]
    return sum(found) if word == "cases" else math.prod(found)


def first_pairs(one, other, lists):
    """The first table, by the very words of the document."""
    def stands(a, b, x, y):
        return x in lists[a] and y in lists[b] and (a != b or x == y) and \
            ((a, b) not in one[1] or (x, y) in other[1]) and ((b, a) not in one[1] or (y, x) in other[1])

    pairs = list(itertools.product(range(other[0]), repeat=2))
    return tuple(tuple(tuple((x, y) for x, y in pairs if stands(a, b, x, y)) for b in range(one[0]))
                 for a in range(one[0]))


def pair_strikes(table, m):
    """All strikes of a table of places below m, by the very words of the document."""
    n = len(table)
    return [(a, b, x, y, c) for a in range(n) for b in range(n) for x, y in table[a][b] for c in range(n)
            if not any((x, z) in table[a][c] and (z, y) in table[c][b] for z in range(m))]


def pairs_struck(table, strike):
    """The table, struck."""
    a, b, x, y, _ = strike
    away = {(a, b): (x, y)}
    back = {(b, a): (y, x)}
    return tuple(tuple(tuple(pair for pair in pairs if away.get((c, d)) != pair and back.get((c, d)) != pair)
                       for d, pairs in enumerate(row)) for c, row in enumerate(table))


def closed_lists(W, V, lists):
    """The closed lists, struck one by one by the very words of the document."""
    while going(W, V, lists):
        lists = without(lists, going(W, V, lists)[0])
    return lists


def closed_pairs(one, other, lists):
    """The closed table, struck one by one by the very words of the document."""
    table = first_pairs(one, other, lists)
    while pair_strikes(table, other[0]):
        table = pairs_struck(table, pair_strikes(table, other[0])[0])
    return table


def is_middle_of(own, m):
    """Whether a table by kind is a middle of a web, by the very words of the document."""
    places = range(own[0])
    return all(m[x][x][y] == x and m[x][y][x] == x and m[y][x][x] == x for x in places for y in places) and all(
        (m[x][u][s], m[y][v][t]) in own[1] for (x, y), (u, v), (s, t) in itertools.product(own[1], repeat=3))


def some_middle(chance, n):
    """A table of n places in which two of three count, and whatever else."""
    def told(x, y, z):
        two = [p for p in (x, y) if (x, y, z).count(p) > 1]
        return two[0] if two else chance.randrange(n)

    return tuple(tuple(tuple(told(x, y, z) for z in range(n)) for y in range(n)) for x in range(n))


def fits(m, lists):
    """Whether lists fit a middle, by the very words of the document."""
    return all(m[x][y][z] in row for row in lists for x, y, z in itertools.product(row, repeat=3))


def some_fitting(seed, many, most):
    """Webs of up to most places, each with a middle of it, the same ones each time."""
    chance = random.Random(seed)
    found = []
    while len(found) < many:
        own = some_web(chance, chance.randrange(most + 1), chance.randrange(1, 10))
        for m in [some_middle(chance, own[0]) for _ in range(3)]:
            if is_middle_of(own, m):
                found.append((own, m))
                break
    return found


def images_of(V, lists, tree):
    """The images of a tree, by the very words of the document."""
    def tied(x, y, way):
        return ((x, y) if way == "out" else (y, x)) in V[1]

    ends = [(way, images_of(V, lists, inner)) for way, inner in tree[1]]
    return tuple(x for x in lists[tree[0]] if all(any(tied(x, y, way) for y in found) for way, found in ends))


def some_tree(chance, own, a, deep):
    """A tree of a web at a, at most deep within one another."""
    ways = [("out", b) for c, b in own[1] if c == a] + [("in", c) for c, b in own[1] if b == a]
    many = chance.randrange(3) if ways and deep > 1 else 0
    chosen = [chance.choice(ways) for _ in range(many)]
    return (a, tuple((way, some_tree(chance, own, b, deep - 1)) for way, b in chosen))


def is_walk_kind(own, thing):
    """Whether a thing has places and signs as a walk has, by the very words of the document."""
    def place(k):
        return isinstance(k, int) and not isinstance(k, bool) and k in range(own[0])

    return isinstance(thing, tuple) and len(thing) == 2 and isinstance(thing[0], tuple) and \
        isinstance(thing[1], str) and 0 < len(thing[0]) < 201 and all(map(place, thing[0])) and \
        len(thing[1]) == len(thing[0]) - 1 and set(thing[1]) <= {"+", "-"}


def walks_by_ties(own, walk):
    """Whether each step of what is a walk by kind goes by a tie, by the very words of the document."""
    steps = zip(walk[0], walk[0][1:], walk[1])
    return all(((p, q) if sign == "+" else (q, p)) in own[1] for p, q, sign in steps)


def some_walk(chance, own, long):
    """A walk of a web that has places, of at most so many signs."""
    places, signs = [chance.randrange(own[0])], ""
    for _ in range(long):
        steps = [("+", q) for p, q in own[1] if p == places[-1]] + [("-", p) for p, q in own[1] if q == places[-1]]
        if not steps:
            break
        sign, place = chance.choice(steps)
        places.append(place)
        signs += sign
    return (tuple(places), signs)


def some_closed_walk(chance, own, long):
    """A closed walk of a web that has places, of about so many signs, by going back where it comes to no end."""
    places, signs = some_walk(chance, own, long)
    if places[0] in places[1:]:
        last = len(places) - 1 - places[::-1].index(places[0])
        return (places[:last + 1], signs[:last])
    back = "".join("-" if sign == "+" else "+" for sign in signs[::-1])
    return (places + places[-2::-1], signs + back)


def all_of(k):
    """ALL k, by the very words of the document."""
    return (k, tuple(itertools.permutations(range(k), 2)))


def least_hues(own):
    """The least count of hues, by going through, or None where there is none."""
    return next((k for k in range(own[0] + 1) if all_led(own, all_of(k))), None)


def some_tied(chance, n, most):
    """A web of n places without loops with at most so many twos of them tied."""
    pairs = chance.sample(list(itertools.combinations(range(n), 2)), min(most, n * (n - 1) // 2))
    ties = [tie for a, b in pairs for tie in chance.choice([[(a, b)], [(b, a)], [(a, b), (b, a)]])]
    return web(n, *sorted(ties))


def tree_led_on(tree, h):
    """The tree with h[a] for each a."""
    return (h[tree[0]], tuple((way, tree_led_on(inner, h)) for way, inner in tree[1]))


def otherwise(chance, thing):
    """The thing with something in it otherwise."""
    if isinstance(thing, tuple) and thing and thing[0] in ENDS and chance.randrange(2):
        return chance.choice(ENDS[thing[0]])
    if isinstance(thing, tuple) and thing and chance.randrange(8):
        k = chance.randrange(len(thing))
        return thing[:k] + (otherwise(chance, thing[k]),) + thing[k + 1:]
    if isinstance(thing, tuple):
        return chance.choice([(), thing[:-1], thing + thing[-1:], thing[::-1], list(thing)])
    if isinstance(thing, str) and set(thing) <= {"+", "-"}:
        return chance.choice(["+" + thing[1:], "-" + thing[1:], thing[::-1], thing[1:], thing + "+", None, thing.replace("+", "-")])
    if isinstance(thing, str):
        return chance.choice([word for word in WORDS_OF.get(thing, ("",)) if word != thing])
    if thing is None:
        return chance.choice([(), 0, False, ((), ("void", 0))])
    return chance.choice([thing + 1, thing - 1, thing + 1, abs(thing - 1), True])


class Due(Exception):
    """What is due of lines that write no paper."""


def paper_due(lines):
    """The paper that lines write, or the (row, word) that is due, by the very words of the document."""
    rows = list(enumerate(lines))

    def number(word):
        return word.isdigit() and len(word) < 4 and str(int(word)) == word

    def look(row, line):
        words = line.split(" ")
        forms = {"strike": [number, number, number, lambda word: word in ("out", "in")], "void": [number],
                 "cases": [number, number]}
        if words[0] not in forms:
            raise Due(row, 0)
        asked = forms[words[0]]
        for at, word in enumerate(words[1:], 1):
            if at > len(asked) or not asked[at - 1](word):
                raise Due(row, at)
        if len(words) <= len(asked):
            raise Due(row, len(words))
        return [int(word) if word.isdigit() else word for word in words]

    def paper():
        strikes = []
        while rows:
            word, *told = look(*rows.pop(0))
            if word == "strike":
                strikes.append(tuple(told))
            elif word == "void":
                return (tuple(strikes), ("void", *told))
            else:
                return (tuple(strikes), ("cases", told[0], tuple([paper() for _ in range(told[1])])))
        raise Due(len(lines), 0)

    try:
        found = paper()
        if rows:
            raise Due(rows[0][0], 0)
        return found
    except Due as due:
        return list(due.args)


class Model:
    """What a holder holds, by the very words of the document."""

    def __init__(self, W, V):
        self.state = (W, ((*range(V[0]),),) * W[0])
        self.V = V
        self.pushed = []

    def do(self, deed, *told):
        """Does a deed, or tells the refusal that is due."""
        (n, ties), lists = self.state
        if deed == "push":
            self.pushed.append(self.state)
        elif deed == "pop":
            if not self.pushed:
                return (errors.NoLevel, ())
            self.state = self.pushed.pop()
        elif deed in ("hold", "bar"):
            a, x = told
            if x not in lists[a]:
                return (errors.NoHold, told)
            self.state = ((n, ties), put(lists, a, (x,) if deed == "hold" else [y for y in lists[a] if y != x]))
        else:
            if (told in ties) == (deed == "tie"):
                return (errors.NoHold, told)
            self.state = ((n, tuple(sorted({*ties} ^ {told}))), lists)
        return None


class Promise(unittest.TestCase):
    """Calls that are made twice, and looked at for what they do to what they are handed."""

    def same(self, told, due):
        """Alike in kinds, too: a list is no tuple, True is no 1."""
        self.assertEqual(repr(told), repr(due))

    def told(self, asked, *things):
        """What is told, which is the same a second time, whatever its asker does to the first one."""
        before = copy.deepcopy(things)
        first = asked(*things)
        kept = copy.deepcopy(first)
        if isinstance(first, list):
            first.append("changed by its asker")
        second = asked(*things)
        self.same(second, kept)
        self.same(things, before)
        return second

    def shallow(self, asked, *things):
        """What is told where no more than two hundred calls may stand within one another."""
        limit = sys.getrecursionlimit()
        frame, used = sys._getframe(), 0
        while frame:
            frame, used = frame.f_back, used + 1
        sys.setrecursionlimit(used + 200)
        try:
            return asked(*things)
        finally:
            sys.setrecursionlimit(limit)

    def tells(self, due, asked, *things):
        self.same(self.told(asked, *things), due)

    def refuses(self, kind, fields, asked, *things):
        """It is refused by that class and no other one, with these fields, and changes nothing."""
        before = copy.deepcopy(things)
        for _ in range(2):
            with self.assertRaises(errors.WebError) as caught:
                asked(*things)
            self.is_refusal(caught.exception, kind, fields)
            self.same(things, before)

    def is_refusal(self, refusal, kind, fields):
        self.assertIsInstance(refusal, ValueError)
        for other in REFUSALS:
            self.assertEqual(isinstance(refusal, other), other is kind, other)
        self.same(tuple(getattr(refusal, name) for name in FIELDS[kind]), fields)
