"""Point [51]: above papers and below papers, and their checkers."""

import itertools
import random
import unittest

from helper import JUNK, Promise, all_led, all_webs, nested, otherwise, some_web, some_webs, spoiled, web
from webintoweb.boundchecker import lets_above, lets_below
from webintoweb.errors import NoPaper
from webintoweb.families import all_web, line_web, round_web, way_web

VOID, ONE, LOOP = web(0), web(1), web(1, (0, 0))
TIE, R2, R3 = web(2, (0, 1)), round_web(2), round_web(3)


def all_side(webs):
    """All webs side by side, by the words of the document."""
    n, ties = 0, []
    for many, own in webs:
        ties += [(n + a, n + b) for a, b in own]
        n += many
    return (n, tuple(sorted(ties)))


def all_pairs(webs):
    """All webs in pairs, the last one's places counted fastest."""
    places = list(itertools.product(*[range(many) for many, ties in webs]))
    return (len(places), tuple(
        (j, k) for j, f in enumerate(places) for k, g in enumerate(places)
        if all((a, b) in ties for a, b, (many, ties) in zip(f, g, webs))))


def fits(W, V, f):
    """Whether any thing is a leading, by its words and kinds."""
    return isinstance(f, tuple) and len(f) == W[0] and all(
        isinstance(x, int) and not isinstance(x, bool) and x in range(V[0]) for x in f) and all(
        (f[a], f[b]) in V[1] for a, b in W[1])


def due_of(webs, thing, fs_fit, g_fits):
    if not isinstance(thing, tuple) or len(thing) != 2:
        return ((), "shape", 0)
    if not isinstance(thing[0], tuple) or len(thing[0]) != len(webs):
        return ((), "shape", 0)
    for k, (own, f) in enumerate(zip(webs, thing[0])):
        if not fs_fit(own, f):
            return ((k,), "leading", 0)
    return None if g_fits(thing[1]) else ((), "whole", 0)


def above_due(webs, S, thing):
    return due_of(webs, thing, lambda own, f: fits(own, S, f), lambda g: fits(S, all_side(webs), g))


def below_due(webs, S, thing):
    return due_of(webs, thing, lambda own, f: fits(S, own, f), lambda g: fits(all_pairs(webs), S, g))


class Asked(Promise):
    def as_due(self, lets, webs, S, thing):
        due = (above_due if lets is lets_above else below_due)(webs, S, thing)
        if due is None:
            self.tells(True, lets, webs, S, thing)
        else:
            self.refuses(NoPaper, due, lets, webs, S, thing)
        return due

    def lets(self, lets, webs, S, thing):
        self.assertIsNone(self.as_due(lets, webs, S, thing))

    def refused(self, due, lets, webs, S, thing):
        self.assertEqual(self.as_due(lets, webs, S, thing), due)


class Above(Asked):
    WEBS, S = (TIE, R3, ONE), web(5, (0, 1), (1, 2), (2, 0), (3, 4))
    # Side has the tie at 0 and 1, the round at 2, 3 and 4, and behind them the place alone.
    PAPER = (((1, 2), (0, 1, 2), (4,)), (2, 3, 4, 0, 1))

    def test_let_by(self):
        self.lets(lets_above, self.WEBS, self.S, self.PAPER)
        self.lets(lets_above, self.WEBS, R3, (((0, 1), (1, 2, 0), (2,)), (2, 3, 4)))
        self.lets(lets_above, (TIE, TIE), TIE, (((0, 1), (0, 1)), (0, 1)))
        self.lets(lets_above, (TIE, TIE), TIE, (((0, 1), (0, 1)), (2, 3)))
        self.lets(lets_above, (R2, R3, ONE, TIE), all_side((R2, R3)),
                  (((0, 1), (2, 3, 4), (0,), (1, 0)), (0, 1, 2, 3, 4)))

    def test_of_none(self):
        self.lets(lets_above, (), VOID, ((), ()))
        self.refused(((), "shape", 0), lets_above, (), VOID, (((),), ()))
        for S in (ONE, LOOP, R2):
            for g in ((), (0,), (0, 1), None):
                self.refused(((), "whole", 0), lets_above, (), S, ((), g))

    def test_of_one(self):
        self.lets(lets_above, (R3,), R3, (((1, 2, 0),), (2, 0, 1)))
        self.lets(lets_above, (VOID,), VOID, (((),), ()))
        self.lets(lets_above, (LOOP,), web(2, (0, 1), (1, 1)), (((1,),), (0, 0)))
        self.refused(((), "whole", 0), lets_above, (VOID,), ONE, (((),), (0,)))
        self.refused(((), "whole", 0), lets_above, (VOID, VOID), ONE, (((), ()), (0,)))

    def test_a_web_that_is_none(self):
        # It is above both, but not the least; it is below some that are above both, but not above both.
        for S in (LOOP, round_web(1), web(2, (0, 0), (1, 0))):
            for f in all_led(R3, S):
                for g in itertools.product(range(6), repeat=S[0]):
                    self.refused(((), "whole", 0), lets_above, (R3, R3), S, ((f, f), g))
        for f in itertools.product(range(2), repeat=3):
            self.refused(((0,), "leading", 0), lets_above, (R3, ONE), TIE, ((f, (0,)), (0, 1)))

    def test_so_whoever_wrote_it_S_is_the_least_above(self):
        chance = random.Random(370)
        small = [VOID, ONE, LOOP] + all_webs(2)
        let_by = 0
        for _ in range(150):
            webs = tuple(chance.choice(small) for _ in range(chance.randrange(4)))
            S = chance.choice(small + [all_side(webs)])
            fs = [all_led(own, S) for own in webs]
            gs = all_led(S, all_side(webs))
            if all(fs) and gs:
                paper = (tuple(chance.choice(found) for found in fs), chance.choice(gs))
                self.lets(lets_above, webs, S, paper)
                for T in small:
                    self.assertEqual(bool(all_led(S, T)), all(all_led(own, T) for own in webs))
                let_by += 1
        self.assertGreater(let_by, 40)

    def test_shape(self):
        (fs, g) = self.PAPER
        for thing in list(JUNK) + [
            (), (fs,), (fs, g, g), [fs, g], (list(fs), g), (fs[:2], g), (fs + fs[:1], g), ((), g), (None, g), ("abc", g),
            (3, g), (True, None), g, (g, fs), nested(99, tuple), "ab",
        ]:
            self.refused(((), "shape", 0), lets_above, self.WEBS, self.S, thing)

    def test_the_first_that_is_no_leading(self):
        (fs, g) = self.PAPER
        wrong = [None, (), [0, 1], (True, 2), (0, 9), (-1, 0), "01", 0, True, (0, 1, 2, 3, 4), ((0,), 1), nested(97, list)]
        for k in range(3):
            for f in wrong:
                self.refused(((k,), "leading", 0), lets_above, self.WEBS, self.S, (fs[:k] + (f,) + fs[k + 1:], g))
                self.refused(((k,), "leading", 0), lets_above, self.WEBS, self.S, (fs[:k] + (f,) * (3 - k), None))
        self.refused(((0,), "leading", 0), lets_above, self.WEBS, self.S, (((0, 2),) + fs[1:], g))
        self.refused(((1,), "leading", 0), lets_above, self.WEBS, self.S, ((fs[0], (2, 1, 0), fs[2]), g))
        self.refused(((1,), "leading", 0), lets_above, self.WEBS, self.S, ((fs[0], (0, 1, True), fs[2]), g))

    def test_the_whole(self):
        (fs, g) = self.PAPER
        for other in [None, (), list(g), g[:-1], g + (0,), (2, 3, 4, 1, 0), (2, 3, 4, 0, True), (2, 4, 3, 0, 1),
                      (0, 1, 2, 3, 4), (2, 3, 4, 0, 6), (2, 3, 4, -1, 0), "23401", 5, True]:
            self.refused(((), "whole", 0), lets_above, self.WEBS, self.S, (fs, other))

    def test_the_order_of_webs(self):
        # Of three webs the second stands behind the first, and the third behind both.
        webs, fs = (ONE, R3, R2), ((0,), (0, 1, 2), (3, 4))
        S = all_side((R3, R2))
        self.lets(lets_above, webs, S, (fs, (1, 2, 3, 4, 5)))
        self.refused(((), "whole", 0), lets_above, webs, S, (fs, (2, 3, 4, 0, 1)))
        self.refused(((), "whole", 0), lets_above, webs, S, (fs, (0, 1, 2, 3, 4)))

    def test_things_otherwise(self):
        for thing in [self.PAPER] + spoiled(self.PAPER):
            self.as_due(lets_above, self.WEBS, self.S, thing)
        chance = random.Random(371)
        words = dict.fromkeys(("shape", "leading", "whole"), 0)
        for _ in range(400):
            due = self.as_due(lets_above, self.WEBS, self.S, otherwise(chance, self.PAPER))
            if due:
                words[due[1]] += 1
        self.assertTrue(all(many > 8 for many in words.values()), words)


class Below(Asked):
    WEBS, S = (R2, web(2, (0, 1), (1, 1))), web(3, (0, 1), (1, 0), (2, 1))
    # Pairs are (0, 0), (0, 1), (1, 0), (1, 1) by their numbers.
    PAPER = (((0, 1, 0), (1, 1, 0)), (0, 0, 1, 1))

    def test_let_by(self):
        self.lets(lets_below, self.WEBS, self.S, self.PAPER)
        self.lets(lets_below, (R2, R3), round_web(6), (((0, 1) * 3, (0, 1, 2) * 2), (0, 4, 2, 3, 1, 5)))
        self.lets(lets_below, (TIE, TIE), TIE, (((0, 1), (0, 1)), (0, 0, 0, 1)))
        self.lets(lets_below, (ONE, TIE, R3), ONE, (((0,), (1,), (2,)), (0,) * 6))
        self.lets(lets_below, (LOOP,) * 4, LOOP, (((0,),) * 4, (0,)))
        self.lets(lets_below, (VOID, R3), VOID, (((), ()), ()))

    def test_of_none(self):
        self.lets(lets_below, (), LOOP, ((), (0,)))
        self.lets(lets_below, (), web(3, (0, 1), (1, 1)), ((), (1,)))
        self.refused(((), "whole", 0), lets_below, (), web(3, (0, 1), (1, 1)), ((), (0,)))
        self.refused(((), "whole", 0), lets_below, (), LOOP, ((), ()))
        self.refused(((), "shape", 0), lets_below, (), LOOP, (((),), (0,)))
        for S in (VOID, ONE, R2):
            for g in ((), (0,), (1,), None):
                self.refused(((), "whole", 0), lets_below, (), S, ((), g))

    def test_of_one(self):
        self.lets(lets_below, (R3,), R3, (((1, 2, 0),), (2, 0, 1)))
        self.lets(lets_below, (VOID,), VOID, (((),), ()))
        self.lets(lets_below, (LOOP,), web(2, (0, 1), (1, 1)), (((0, 0),), (1,)))
        self.refused(((0,), "leading", 0), lets_below, (VOID,), ONE, (((0,),), ()))
        self.refused(((), "whole", 0), lets_below, (ONE,), VOID, (((),), ()))

    def test_a_web_that_is_none(self):
        for g in itertools.product(range(2), repeat=4):
            self.refused(((), "whole", 0), lets_below, (R2, R2), web(2, (0, 1)), (((0, 1), (0, 1)), g))
        for f in itertools.product(range(2), repeat=3):
            self.refused(((0,), "leading", 0), lets_below, (R2, R3), R3, ((f, (0, 1, 2)), (0, 1, 2) * 2))

    def test_so_whoever_wrote_it_S_is_the_greatest_below(self):
        chance = random.Random(372)
        small = [VOID, ONE, LOOP] + all_webs(2)
        let_by = 0
        for _ in range(200):
            webs = tuple(chance.choice(small) for _ in range(chance.randrange(4)))
            S = chance.choice(small + [all_pairs(webs)])
            fs = [all_led(S, own) for own in webs]
            gs = all_led(all_pairs(webs), S) if S[0] < 5 else [tuple(range(S[0]))]
            if all(fs) and gs:
                paper = (tuple(chance.choice(found) for found in fs), chance.choice(gs))
                self.lets(lets_below, webs, S, paper)
                for T in small:
                    self.assertEqual(bool(all_led(T, S)), all(all_led(T, own) for own in webs))
                let_by += 1
        self.assertGreater(let_by, 40)

    def test_shape(self):
        (fs, g) = self.PAPER
        pair = ((0, 0), (0, 0))
        self.refused(((0,), "leading", 0), lets_below, self.WEBS, self.S, pair)
        for thing in [junk for junk in JUNK if junk != pair] + [
            (), (fs,), (fs, g, g), [fs, g], (list(fs), g), (fs[:1], g), (fs + fs[:1], g), ((), g), (None, g), ("ab", g),
            (2, g), (True, None), g, nested(99, tuple), "ab",
        ]:
            self.refused(((), "shape", 0), lets_below, self.WEBS, self.S, thing)

    def test_the_first_that_is_no_leading(self):
        (fs, g) = self.PAPER
        wrong = [None, (), [0, 1, 0], (True, 2, 0), (0, 9, 0), (-1, 0, 1), "010", 0, True, (0, 1), (0, 1, 0, 1), (0, 0, 0)]
        for k in range(2):
            for f in wrong:
                self.refused(((k,), "leading", 0), lets_below, self.WEBS, self.S, (fs[:k] + (f,) + fs[k + 1:], g))
                self.refused(((k,), "leading", 0), lets_below, self.WEBS, self.S, (fs[:k] + (f,) * (2 - k), None))
        self.refused(((0,), "leading", 0), lets_below, self.WEBS, self.S, (fs[::-1], g))

    def test_the_whole(self):
        (fs, g) = self.PAPER
        for other in [None, (), list(g), g[:-1], g + (0,), (0, 0, 0, 1), (0, 0, 1, True), (1, 0, 1, 1), (0, 0, 1, 3),
                      (0, -1, 1, 1), "0011", 5, True, (0, 0, 1, 2)]:
            self.refused(((), "whole", 0), lets_below, self.WEBS, self.S, (fs, other))

    def test_the_order_of_webs(self):
        webs = (TIE, ONE, R3)
        whole = all_pairs(webs)
        fs = tuple(tuple(place[k] for place in itertools.product(range(2), range(1), range(3))) for k in range(3))
        self.lets(lets_below, webs, whole, (fs, tuple(range(6))))
        webs, S = (TIE, R3), all_pairs((TIE, R3))
        fs = ((0, 0, 0, 1, 1, 1), (0, 1, 2, 0, 1, 2))
        self.lets(lets_below, webs, S, (fs, (0, 1, 2, 3, 4, 5)))
        self.refused(((), "whole", 0), lets_below, webs, S, (fs, (0, 3, 1, 4, 2, 5)))

    def test_up_to_sixty_four_pairs(self):
        webs = (all_web(4), round_web(4), line_web(4))
        whole = all_pairs(webs)
        fs = tuple(tuple(place[k] for place in itertools.product(range(4), repeat=3)) for k in range(3))
        self.lets(lets_below, webs, whole, (fs, tuple(range(64))))
        self.refused(((), "whole", 0), lets_below, webs, whole, (fs, tuple(range(63)) + (0,)))
        # No pairs at all of five, five and five with none.
        self.lets(lets_below, (all_web(5),) * 3 + (VOID,), VOID, (((),) * 4, ()))

    def test_things_otherwise(self):
        for thing in [self.PAPER] + spoiled(self.PAPER):
            self.as_due(lets_below, self.WEBS, self.S, thing)
        chance = random.Random(373)
        words = dict.fromkeys(("shape", "leading", "whole"), 0)
        for _ in range(400):
            due = self.as_due(lets_below, self.WEBS, self.S, otherwise(chance, self.PAPER))
            if due:
                words[due[1]] += 1
        self.assertTrue(all(many > 8 for many in words.values()), words)


class Both(Asked):
    def test_papers_of_some_webs(self):
        chance = random.Random(374)
        for webs in zip(some_webs(375, 60, 4), some_webs(376, 60, 4), [web(1), way_web("><"), R2] * 20):
            S = some_web(chance, 3, 6)
            fs = tuple(tuple(chance.randrange(3) for _ in range(own[0])) for own in webs)
            self.as_due(lets_above, webs, S, (fs, (0, 1, 2)))
            fs = tuple(tuple(chance.randrange(own[0] or 1) for _ in range(3)) for own in webs)
            self.as_due(lets_below, webs, S, (fs, (0,) * all_pairs(webs)[0]))

    def test_kinds_of_what_is_asked(self):
        # A paper of the one is seldom one of the other.
        self.refused(((0,), "leading", 0), lets_below, Above.WEBS, Above.S, Above.PAPER)
        self.refused(((0,), "leading", 0), lets_above, Below.WEBS, Below.S, Below.PAPER)


if __name__ == "__main__":
    unittest.main()
