"""Points [55] and [57]: core papers and least papers, and their checkers."""

import itertools
import random
import unittest

from helper import (
    JUNK, Promise, all_led, all_webs, leads, nested, otherwise, refusal_due, some_paper, some_webs, spoiled, web,
)
from webintoweb.corechecker import lets_core, lets_least
from webintoweb.errors import NoCore, NoLeast
from webintoweb.families import all_web, line_web, round_web, way_web
from webintoweb.leadings import is_onto
from webintoweb.webs import part

VOID, ONE, LOOP = web(0), web(1), web(1, (0, 0))
TIE, R2, R3 = web(2, (0, 1)), round_web(2), round_web(3)
# Of a tie: without 0 nothing can begin it, without 1 nothing can end it.
TIE_PAPERS = ((((0, 1, 1, "out"),), ("void", 0)), (((1, 0, 0, "in"),), ("void", 1)))


def lists_but(own, p):
    return (tuple(x for x in range(own[0]) if x != p),) * own[0]


def core_due(own, thing):
    """The (place, word) that is due, or None, by the very words of the document."""
    if not isinstance(thing, tuple) or len(thing) != own[0]:
        return (-1, "shape")
    for p in range(own[0]):
        due = refusal_due(own, own, lists_but(own, p), thing[p])
        if due:
            return (p, due[1])
    return None


def least_due(own, thing):
    """The word that is due, or None, by the very words of the document."""
    def place(k):
        return isinstance(k, int) and not isinstance(k, bool) and k in range(own[0])

    if not isinstance(thing, tuple) or len(thing) != 3 or not isinstance(thing[0], tuple):
        return "shape"
    kept, f, papers = thing
    if not all(map(place, kept)) or list(kept) != sorted(set(kept)):
        return "shape"
    if not isinstance(f, tuple) or len(f) != own[0] or not all(map(place, f)) or not leads(own, own, f):
        return "leading"
    if not set(f) <= set(kept) or any(f[k] != k for k in kept):
        return "leading"
    return "core" if core_due(part(own, kept), papers) else None


def is_core(own):
    return all(is_onto(own, f) for f in all_led(own, own))


def some_core_paper(chance, own):
    return tuple(some_paper(chance, own, own, lists_but(own, p)) for p in range(own[0]))


def some_least_paper(chance, own):
    """A least paper as anyone might write it, by going through all leadings."""
    folds = [f for f in all_led(own, own) if all(f[f[a]] == f[a] for a in range(own[0]))]
    least = min(len(set(f)) for f in folds)
    f = chance.choice([f for f in folds if len(set(f)) == least])
    kept = tuple(sorted(set(f)))
    return (kept, f, some_core_paper(chance, part(own, kept)))


class Core(Promise):
    def lets(self, own, paper):
        self.tells(True, lets_core, own, paper)
        self.assertIsNone(core_due(own, paper))
        self.assertTrue(is_core(own))

    def refused(self, due, own, thing):
        self.refuses(NoCore, due, lets_core, own, thing)
        self.assertEqual(core_due(own, thing), due)

    def as_due(self, own, thing):
        due = core_due(own, thing)
        if due is None:
            self.lets(own, thing)
        else:
            self.refuses(NoCore, due, lets_core, own, thing)
        return due

    def test_let_by(self):
        self.lets(VOID, ())
        self.lets(TIE, TIE_PAPERS)
        self.lets(ONE, (((), ("void", 0)),))
        self.lets(ONE, (((), ("cases", 0, ())),))
        self.lets(LOOP, (((), ("void", 0)),))
        # A round of two: without 1 both are led to 0, which has no loop.
        self.lets(R2, ((((0, 1, 1, "out"),), ("void", 0)), (((1, 0, 0, "in"),), ("void", 1))))
        self.lets(R2, ((((1, 1, 0, "out"),), ("cases", 1, ())), (((0, 0, 1, "in"),), ("void", 0))))

    def test_whoever_wrote_it(self):
        chance = random.Random(420)
        webs = all_webs(2) + [R3, all_web(3), line_web(4), round_web(5), web(3, (0, 1), (1, 2))] + some_webs(421, 60, 4)
        cores = [own for own in webs if is_core(own)]
        self.assertGreater(len(cores), 20)
        for own in cores:
            for _ in range(3):
                self.lets(own, some_core_paper(chance, own))

    def test_shape(self):
        for own, papers in [(TIE, TIE_PAPERS), (ONE, (((), ("void", 0)),)), (VOID, ())]:
            junk = [thing for thing in JUNK if not isinstance(thing, tuple) or len(thing) != own[0]]
            for thing in junk + [list(papers), papers + papers[:1] + (None,), papers + ((),), "ab"[:own[0]], own[0]]:
                self.refused((-1, "shape"), own, thing)
            if papers:
                self.refused((-1, "shape"), own, papers[:-1])
        self.refused((-1, "shape"), VOID, (((), ("void", 0)),))
        self.refused((-1, "shape"), VOID, [])

    def test_the_first_one_amiss(self):
        for paper, word in [
            (None, "shape"), ([], "shape"), ((), "shape"), (True, "shape"), (((), ("void", True)), "shape"),
            (((), ("void", 2)), "shape"), (((), ("all",)), "shape"), ((((0, 1, 1, "else"),), ("void", 0)), "shape"),
            ([(), ("void", 0)], "shape"), (((), ("void", 0)), "void"), (((), ("void", 1)), "void"),
            (((), ("cases", 0, ())), "parts"), (((), ("cases", 1, (None, None))), "parts"),
            (((), ("cases", 1, (None,))), "shape"), ((((0, 0, 0, "in"),), ("void", 0)), "strike"),
            (((), ("cases", 0, (((), ("void", 1)),))), "void"), (nested(97, tuple), "shape"),
        ]:
            self.refused((0, word), TIE, (paper, TIE_PAPERS[1]))
            self.refused((1, word), TIE, (TIE_PAPERS[0], paper))
            self.refused((0, word), TIE, (paper, None))
        # Each one's lists lack its own place, not another one.
        self.refused((0, "strike"), TIE, TIE_PAPERS[::-1])
        self.refused((1, "strike"), TIE, (TIE_PAPERS[0],) * 2)
        self.refused((0, "strike"), TIE, (TIE_PAPERS[1],) * 2)

    def test_webs_that_are_no_cores(self):
        chance = random.Random(422)
        other = some_core_paper(chance, R3)
        for own in (web(2), web(3, (0, 1)), way_web("><"), web(2, (0, 0)), web(2, (0, 1), (1, 1))):
            self.assertFalse(is_core(own))
            for thing in [((((0, 1, 1, "out"),), ("void", 0)),) * own[0], (((), ("void", 0)),) * own[0],
                          other[:own[0]], (((), ("cases", 0, ())),) * own[0]]:
                self.assertIsNotNone(self.as_due(own, thing))

    def test_things_otherwise(self):
        chance = random.Random(423)
        for own in (TIE, R2, R3, line_web(3)):
            paper = some_core_paper(chance, own)
            for thing in [paper] + spoiled(paper):
                self.as_due(own, thing)
        words = dict.fromkeys(("shape", "strike", "void", "parts"), 0)
        for own in [own for own in some_webs(424, 60, 4) if is_core(own)] + [R3, all_web(3)] * 6:
            paper = some_core_paper(chance, own)
            for _ in range(8):
                due = self.as_due(own, otherwise(chance, paper))
                if due:
                    words[due[1]] += 1
        self.assertTrue(all(many > 8 for many in words.values()), words)

    def test_few_calls_stand_within_one_another(self):
        paper = TIE_PAPERS[0]
        for _ in range(28):
            paper = ((), ("cases", 0, (paper,)))
        self.assertIs(self.shallow(lets_core, TIE, (paper, TIE_PAPERS[1])), True)


class Least(Promise):
    # A way of three ties led onto its first one.
    WAY = way_web("><>")
    PAPER = ((0, 1), (0, 1, 0, 1), TIE_PAPERS)

    def lets(self, own, paper):
        self.tells(True, lets_least, own, paper)
        self.assertIsNone(least_due(own, paper))
        least = part(own, paper[0])
        self.assertTrue(is_core(least))
        self.assertTrue(all_led(own, least) and all_led(least, own))

    def refused(self, word, own, thing):
        self.refuses(NoLeast, (word,), lets_least, own, thing)
        self.assertEqual(least_due(own, thing), word)

    def as_due(self, own, thing):
        due = least_due(own, thing)
        if due is None:
            self.lets(own, thing)
        else:
            self.refuses(NoLeast, (due,), lets_least, own, thing)
        return due

    def test_let_by(self):
        self.lets(self.WAY, self.PAPER)
        self.lets(self.WAY, ((2, 3), (2, 3, 2, 3), TIE_PAPERS))
        back = ((((0, 0, 1, "in"),), ("void", 0)), (((1, 1, 0, "out"),), ("void", 1)))
        self.lets(self.WAY, ((1, 2), (2, 1, 2, 1), back[::-1]))
        self.lets(VOID, ((), (), ()))
        self.lets(ONE, ((0,), (0,), (((), ("void", 0)),)))
        self.lets(web(3), ((2,), (2, 2, 2), (((), ("void", 0)),)))
        self.lets(web(3, (0, 1), (1, 1), (2, 1)), ((1,), (1, 1, 1), (((), ("void", 0)),)))
        # A core is its own least web, and itself is not the only leading, but the only one that is let by.
        self.lets(R2, ((0, 1), (0, 1), TIE_PAPERS))
        self.refused("leading", R2, ((0, 1), (1, 0), TIE_PAPERS))

    def test_whoever_wrote_it(self):
        chance = random.Random(430)
        for own in [VOID, ONE, LOOP] + all_webs(2) + some_webs(431, 40, 4) + [round_web(4), way_web(">><"), all_web(4)]:
            for _ in range(2):
                self.lets(own, some_least_paper(chance, own))

    def test_shape(self):
        kept, f, papers = self.PAPER
        for thing in list(JUNK) + [
            (), (kept,), (kept, f), (kept, f, papers, ()), [kept, f, papers], (list(kept), f, papers), (None, f, papers),
            ((1, 0), f, papers), ((0, 0), f, papers), ((0, 4), f, papers), ((-1, 0), f, papers), ((0, True), f, papers),
            ((False, 1), f, papers), (("0", 1), f, papers), ((0, None), None, None), ("01", f, papers), (0, f, papers),
            ((0, (1,)), f, papers), ([], f, papers), (True, f, papers), nested(99, tuple),
        ]:
            self.refused("shape", self.WAY, thing)
            self.refused("shape", VOID, thing)

    def test_leading(self):
        kept, f, papers = self.PAPER
        for other in [
            None, (), list(f), (0, 1, 0), (0, 1, 0, 1, 0), (0, 1, 0, True), (False, 1, 0, 1), "0101", 5, (0, 1, 0, -1),
            # No leading; one that leads elsewhere; one that leads kept places to others.
            (0, 1, 1, 1), (0, 1, 1, 0), (0, 1, 2, 1), (0, 1, 2, 3), (2, 3, 2, 3), (2, 1, 2, 1), (0, 1, 0, 4),
        ]:
            self.refused("leading", self.WAY, (kept, other, papers))
            self.refused("leading", self.WAY, (kept, other, None))
        # It does not lead to all kept places, or to more.
        self.refused("leading", self.WAY, ((0, 1, 2), f, papers))
        self.refused("leading", self.WAY, ((0,), f, papers))
        self.refused("leading", self.WAY, ((), f, papers))
        self.refused("leading", self.WAY, ((2, 3), f, papers))
        self.refused("leading", web(3), ((0, 1, 2), (0, 1, 1), papers))
        self.refused("leading", web(3, (0, 1), (1, 1)), ((0, 1), (0, 1, 2), papers))

    def test_core(self):
        kept, f, papers = self.PAPER
        for other in [None, (), list(papers), papers[:1], papers + papers[:1], papers[::-1], (None, None), "ab",
                      (papers[0], None), (((), ("void", 0)),) * 2, (papers[0], list(papers[1])), True]:
            self.refused("core", self.WAY, (kept, f, other))
        # All is kept, but it is no core.
        whole = (0, 1, 2, 3)
        self.refused("core", self.WAY, (whole, whole, papers * 2))
        self.refused("core", self.WAY, (whole, whole, (((), ("void", 0)),) * 4))
        self.refused("core", web(2), ((0, 1), (0, 1), (((), ("void", 0)),) * 2))
        # The papers are those of the part, not of the web.
        self.refused("core", web(3), ((2,), (2, 2, 2), (((), ("void", 2)),)))
        self.refused("core", VOID, ((), (), (None,)))
        self.refused("core", VOID, ((), (), []))

    def test_things_otherwise(self):
        chance = random.Random(432)
        for own in (self.WAY, web(3), web(2, (0, 1), (1, 1)), R3, web(3, (0, 1), (1, 0), (1, 2))):
            paper = some_least_paper(chance, own)
            for thing in [paper] + spoiled(paper):
                self.as_due(own, thing)
        words = dict.fromkeys(("shape", "leading", "core"), 0)
        for own in some_webs(433, 60, 4):
            paper = some_least_paper(chance, own)
            for _ in range(8):
                due = self.as_due(own, otherwise(chance, paper))
                if due:
                    words[due] += 1
        self.assertTrue(all(many > 20 for many in words.values()), words)

    def test_all_that_is_kept_and_led(self):
        for own in all_webs(2) + some_webs(434, 10, 3):
            n = own[0]
            papers = (((), ("void", 0)),)
            for many in range(n + 1):
                for kept in itertools.combinations(range(n), many):
                    for f in itertools.product(range(n), repeat=n):
                        self.as_due(own, (kept, f, papers))


if __name__ == "__main__":
    unittest.main()
