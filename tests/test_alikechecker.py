"""Point [50]: alike papers, and their checker."""

import itertools
import random
import unittest

from helper import (
    JUNK, Promise, all_led, all_tuples, all_webs, leads, nested, otherwise, refusal_due, some_paper, some_webs, spoiled,
    web,
)
from webintoweb.alikechecker import lets_alike
from webintoweb.errors import NoPaper
from webintoweb.families import all_web, line_web, round_web, way_web
from webintoweb.leadings import full_lists

VOID, ONE, LOOP = web(0), web(1), web(1, (0, 0))
TIE, WAY = web(2, (0, 1)), way_web("><>")
ALIKE = ("alike", (0, 1), (0, 1, 0, 1))
# A round of three is led into no round of two, nor the other way about.
R3, R2 = round_web(3), round_web(2)
NONE_0 = (((1, 0, 0, "in"), (2, 1, 1, "in"), (0, 0, 2, "in")), ("void", 0))
NONE_1 = (((1, 1, 0, "in"), (2, 0, 1, "in"), (0, 1, 2, "in")), ("void", 0))
NOT = ("not", 0, ((), ("cases", 0, (NONE_0, NONE_1))))


def alike_due(W, V, thing):
    """The refusal that is due, or None, by the very words of the document."""
    if not isinstance(thing, tuple) or len(thing) != 3 or thing[0] not in ("alike", "not"):
        return ((), "shape", 0)
    if thing[0] == "alike":
        return None if fits(W, V, thing[1]) and fits(V, W, thing[2]) else \
            ((), "last" if fits(W, V, thing[1]) else "first", 0)
    if isinstance(thing[1], bool) or not isinstance(thing[1], int) or thing[1] not in (0, 1):
        return ((), "shape", 0)
    one, other = (W, V) if thing[1] == 0 else (V, W)
    return refusal_due(one, other, full_lists(one, other), thing[2])


def fits(W, V, f):
    return repr(f) in [repr(g) for g in all_led(W, V)]


class Asked(Promise):
    def lets(self, W, V, paper):
        self.tells(True, lets_alike, W, V, paper)
        self.assertIsNone(alike_due(W, V, paper))
        self.assertEqual(paper[0] == "alike", bool(all_led(W, V) and all_led(V, W)))

    def refused(self, due, W, V, thing):
        self.refuses(NoPaper, due, lets_alike, W, V, thing)
        self.assertEqual(alike_due(W, V, thing), due)

    def as_due(self, W, V, thing):
        due = alike_due(W, V, thing)
        if due is None:
            self.lets(W, V, thing)
        else:
            self.refuses(NoPaper, due, lets_alike, W, V, thing)
        return due

    def test_alike(self):
        self.lets(TIE, WAY, ALIKE)
        self.lets(WAY, TIE, ("alike", (0, 1, 0, 1), (2, 1)))
        self.lets(VOID, VOID, ("alike", (), ()))
        self.lets(ONE, ONE, ("alike", (0,), (0,)))
        self.lets(LOOP, web(2, (0, 1), (1, 1)), ("alike", (1,), (0, 0)))
        self.lets(ONE, web(3), ("alike", (2,), (0, 0, 0)))

    def test_not_alike(self):
        self.lets(R3, R2, NOT)
        self.lets(R2, R3, ("not", 1, NOT[2]))
        # Of two ways that are barred either one will do.
        self.lets(LOOP, ONE, ("not", 0, (((0, 0, 0, "out"),), ("void", 0))))
        self.lets(ONE, LOOP, ("not", 1, (((0, 0, 0, "in"),), ("void", 0))))
        self.lets(ONE, VOID, ("not", 0, ((), ("void", 0))))
        self.lets(ONE, VOID, ("not", 0, ((), ("cases", 0, ()))))
        self.lets(VOID, R3, ("not", 1, ((), ("void", 2))))

    def test_all_webs_of_two_places(self):
        for W, V in itertools.product([VOID, ONE, LOOP] + all_webs(2), repeat=2):
            for f, g in itertools.product(all_tuples(W, V), all_tuples(V, W)):
                due = None if leads(W, V, f) and leads(V, W, g) else ((), "last" if leads(W, V, f) else "first", 0)
                self.assertEqual(alike_due(W, V, ("alike", f, g)), due)
                self.as_due(W, V, ("alike", f, g))

    def test_whoever_wrote_it(self):
        chance = random.Random(350)
        many = 0
        for W, V in zip(some_webs(351, 200, 4), some_webs(352, 200, 3)):
            if W[0] and not all_led(W, V):
                paper = some_paper(chance, W, V, full_lists(W, V))
                self.lets(W, V, ("not", 0, paper))
                self.lets(V, W, ("not", 1, paper))
                many += 1
        self.assertGreater(many, 60)

    def test_shape(self):
        for W, V in [(TIE, WAY), (R3, R2), (VOID, VOID)]:
            for thing in list(JUNK) + [
                (), ("alike",), ("alike", ()), ("alike", (), (), ()), ["alike", (), ()], ("Alike", (), ()), ("", (), ()),
                (None, (), ()), (True, (), ()), (("alike",), (), ()), ("not",), ("not", 0), ("not", 0, NOT[2], 0),
                ["not", 0, NOT[2]], ("Not", 0, NOT[2]), ("not", 2, NOT[2]), ("not", -1, NOT[2]), ("not", True, NOT[2]),
                ("not", False, NOT[2]), ("not", "0", NOT[2]), ("not", None, NOT[2]), ("not", (0,), NOT[2]),
                ("not", 10 ** 199, None), ("not", NOT[2], 0), ("none", 0, NOT[2]), (0, "not", NOT[2]), "not",
                nested(99, tuple), (ALIKE,), ("unlike", 0, NOT[2]), ("first", (), ()),
            ]:
                self.refused(((), "shape", 0), W, V, thing)

    def test_first_and_last(self):
        for f in [(0, 0), (1, 0), (0,), (0, 1, 2), (), [0, 1], None, "01", (0, True), (False, 1), (0, "1"), (0, 4), (-1, 0),
                  nested(98, list), True, 0]:
            self.refused(((), "first", 0), TIE, WAY, ("alike", f, (0, 1, 0, 1)))
            self.refused(((), "first", 0), TIE, WAY, ("alike", f, None))
            self.refused(((), "first", 0), TIE, WAY, ("alike", f, f))
        for g in [(0, 1), (1, 0, 1, 0), (0, 1, 1, 1), (0, 1, 0, 2), [0, 1, 0, 1], (0, 1, 0, True), (), None,
                  (0, 1, 0, 1, 0), (False, 1, 0, 1), (0, 1, 0, -1)]:
            self.refused(((), "last", 0), TIE, WAY, ("alike", (0, 1), g))
        # Swapped, the first one is amiss.
        self.refused(((), "first", 0), TIE, WAY, ("alike", (0, 1, 0, 1), (0, 1)))

    def test_as_the_none_checker_refuses_the_paper(self):
        self.refused(((), "shape", -1), R3, R2, ("not", 0, None))
        self.refused(((), "shape", -1), R3, R2, ("not", 1, []))
        self.refused(((), "shape", -1), R3, R2, ("not", 0, ((), ("all",))))
        self.refused(((), "shape", -1), R3, R2, ("not", 0, (((0, 0, 1, "else"),), ("void", 0))))
        self.refused(((), "void", 2), R3, R2, ("not", 0, ((), ("void", 2))))
        self.refused(((), "parts", 2), R3, R2, ("not", 0, ((), ("cases", 0, ()))))
        self.refused(((), "parts", 3), R3, R2, ("not", 1, ((), ("cases", 0, ()))))
        self.refused(((), "strike", 0), R3, R2, ("not", 0, NONE_0))
        self.refused(((1,), "strike", 0), R3, R2, ("not", 0, ((), ("cases", 0, (NONE_0, NONE_0)))))
        self.refused(((0,), "strike", 2), R3, R2, ("not", 0, (
            (), ("cases", 0, ((NONE_0[0][:2] * 2, ("void", 0)), NONE_1)))))
        # The other way about it is a paper of other webs.
        self.refused(((), "parts", 3), R3, R2, ("not", 1, NOT[2]))
        self.refused(((), "shape", -1), ONE, VOID, ("not", 1, ((), ("void", 0))))

    def test_things_of_other_kinds_at_any_depth(self):
        for W, V, paper in [(TIE, WAY, ALIKE), (R3, R2, NOT), (R2, R3, ("not", 1, NOT[2]))]:
            for thing in [paper] + spoiled(paper):
                self.as_due(W, V, thing)

    def test_papers_with_things_otherwise(self):
        chance = random.Random(353)
        words = dict.fromkeys(("shape", "first", "last", "strike", "void", "parts"), 0)
        for W, V in zip(some_webs(354, 300, 3), some_webs(355, 300, 3)):
            if all_led(W, V) and all_led(V, W):
                papers = [("alike", chance.choice(all_led(W, V)), chance.choice(all_led(V, W)))]
            else:
                papers = [("not", way, some_paper(chance, one, other, full_lists(one, other)))
                          for way, one, other in [(0, W, V), (1, V, W)] if not all_led(one, other)]
            for paper in papers * 6:
                due = self.as_due(W, V, otherwise(chance, paper))
                if due is not None:
                    words[due[1]] += 1
        self.assertTrue(all(many > 8 for many in words.values()), words)

    def test_few_calls_stand_within_one_another(self):
        paper = (((0, 0, 0, "out"),), ("void", 0))
        for _ in range(28):
            paper = ((), ("cases", 0, (paper,)))
        self.assertIs(self.shallow(lets_alike, LOOP, ONE, ("not", 0, paper)), True)

    def test_lines(self):
        self.refused(((), "last", 0), line_web(3), all_web(3), ("alike", (0, 1, 2), (0, 1, 2)))


if __name__ == "__main__":
    unittest.main()
