"""Points [71], [73] and [74]: round papers, line papers and two papers, and their checkers."""

import itertools
import random
import unittest

from helper import (
    JUNK, Promise, all_led, all_webs, is_walk_kind, leads, nested, otherwise, some_closed_walk, some_walk, some_webs,
    spoiled, walks_by_ties, web,
)
from webintoweb.errors import NoPaper
from webintoweb.families import all_web, line_web, round_web, way_web
from webintoweb.walkchecker import lets_line, lets_round, lets_two

VOID, ONE, LOOP = web(0), web(1), web(1, (0, 0))
TIE, R2, R3, R4 = web(2, (0, 1)), round_web(2), round_web(3), round_web(4)


def is_told(thing, word):
    return isinstance(thing, tuple) and len(thing) == 2 and isinstance(thing[0], str) and thing[0] == word


def leads_due(own, into, thing):
    """The word that is due of a leading, or None, by the very words of the document."""
    f = thing[1]
    if not isinstance(f, tuple) or len(f) != own[0]:
        return "shape"
    if not all(isinstance(x, int) and not isinstance(x, bool) and 0 <= x < into[0] for x in f):
        return "shape"
    return None if leads(own, into, f) else "tie"


def round_due(own, k, thing):
    if is_told(thing, "leading"):
        return leads_due(own, round_web(k), thing)
    if not is_told(thing, "walk") or not is_walk_kind(own, thing[1]):
        return "shape"
    places, signs = thing[1]
    if not walks_by_ties(own, thing[1]):
        return "tie"
    if places[0] != places[-1]:
        return "closed"
    return "net" if (signs.count("+") - signs.count("-")) % k == 0 else None


def two_due(own, thing):
    if is_told(thing, "leading"):
        return leads_due(own, all_web(2), thing)
    if not is_told(thing, "walk") or not is_walk_kind(own, thing[1]):
        return "shape"
    if not walks_by_ties(own, thing[1]):
        return "tie"
    if thing[1][0][0] != thing[1][0][-1]:
        return "closed"
    return None if len(thing[1][1]) % 2 else "odd"


def line_due(own, k, thing):
    if is_told(thing, "leading"):
        return leads_due(own, line_web(k), thing)
    if not is_told(thing, "walk") or not is_walk_kind(own, (thing[1], "+" * k)):
        return "shape"
    return None if all(tie in own[1] for tie in zip(thing[1], thing[1][1:])) else "tie"


class Asking(Promise):
    def as_due(self, due, is_led, thing, asked, *things):
        """As due: and what is let by is so."""
        if due is None:
            self.tells(True, asked, *things, thing)
            self.assertEqual(is_led, thing[0] == "leading")
        else:
            self.refuses(NoPaper, ((), due, 0), asked, *things, thing)
        return due

    def at_round(self, own, k, thing):
        return self.as_due(round_due(own, k, thing), bool(all_led(own, round_web(k))), thing, lets_round, own, k)

    def at_line(self, own, k, thing):
        return self.as_due(line_due(own, k, thing), bool(all_led(own, line_web(k))), thing, lets_line, own, k)

    def at_two(self, own, thing):
        return self.as_due(two_due(own, thing), bool(all_led(own, all_web(2))), thing, lets_two, own)

    def junk_is_refused(self, asked, *things):
        for thing in list(JUNK) + [
            (), ("leading",), ("walk",), ("leading", (), ()), ("Leading", ()), ("walks", ((0,), "")), ("none", ()), ["leading", ()],
            (None, ()), (True, ()), (("leading",), ()), ((), "leading"), "leading", ("leading", None), ("walk", None),
            ("walk", ()), ("walk", "walk"), ("leading", "leading"), nested(99, tuple), ("leading", nested(98, tuple)),
            ("walk", nested(98, tuple)), ("walk", (nested(97, tuple), "")), ("void", 0),
        ]:
            if thing != ("leading", ()) or things[0] != VOID:
                self.refuses(NoPaper, ((), "shape", 0), asked, *things, thing)


class Round(Asking):
    def test_let_by(self):
        for own, k, paper in [
            (VOID, 1, ("leading", ())), (VOID, 12, ("leading", ())), (ONE, 1, ("leading", (0,))), (LOOP, 1, ("leading", (0,))),
            (ONE, 5, ("leading", (4,))), (LOOP, 2, ("walk", ((0, 0), "+"))), (LOOP, 2, ("walk", ((0, 0), "-"))),
            (LOOP, 12, ("walk", ((0,) * 12, "+" * 11))), (R4, 2, ("leading", (1, 0, 1, 0))), (R4, 4, ("leading", (2, 3, 0, 1))),
            (R4, 3, ("walk", ((0, 1, 2, 3, 0), "++++"))), (R4, 3, ("walk", ((0, 3, 2, 1, 0), "----"))),
            (R4, 3, ("walk", ((2, 3, 2, 3, 0, 1, 2), "+-++++"))), (way_web("><"), 3, ("leading", (2, 0, 2))),
        ]:
            self.assertIsNone(self.at_round(own, k, paper))

    def test_each_fault_and_the_first_of_them(self):
        for own, k, word, thing in [
            (R4, 2, "tie", ("leading", (0, 1, 0, 0))), (R4, 3, "tie", ("leading", (0, 1, 2, 0))), (R4, 2, "shape", ("leading", (0, 1, 0))),
            (R4, 2, "shape", ("leading", (0, 1, 0, 2))), (R4, 2, "shape", ("leading", (0, 1, 0, -1))),
            (R4, 2, "shape", ("leading", (0, 1, 0, True))), (R4, 2, "shape", ("leading", [0, 1, 0, 1])),
            (R4, 2, "shape", ("leading", (0, 1, 0, 1, 0))), (R4, 2, "shape", ("leading", ((0, 1), "+"))),
            (R4, 3, "shape", ("walk", ((0, 1, 2, 4, 0), "++++"))), (R4, 3, "shape", ("walk", ((0, 1, 2, 3, 0), "+++"))),
            (R4, 3, "shape", ("walk", ((0, 1, 2, 3, 0), "++*+"))), (R4, 3, "shape", ("walk", (0, 1, 2, 3, 0))),
            (R4, 3, "shape", ("walk", ((), ""))), (R4, 3, "shape", ("walk", [(0, 1, 2, 3, 0), "++++"])),
            (R4, 3, "shape", ("walk", ((0, 1, 2, 3, False), "++++"))), (R4, 3, "shape", ("walk", ((0, 1, 2, 3, 0), ("+",) * 4))),
            (R4, 3, "shape", ("walk", ((0, 1, 2, 3, 0), "++++", ""))),
            (R4, 3, "tie", ("walk", ((0, 1, 2, 3, 0), "+++-"))), (R4, 3, "tie", ("walk", ((0, 2), "+"))),
            (R4, 2, "tie", ("walk", ((0, 1, 2, 3, 0), "-+++"))), (R4, 3, "closed", ("walk", ((0, 1, 2, 3), "+++"))),
            (R4, 3, "closed", ("walk", ((0, 1), "+"))), (R4, 2, "net", ("walk", ((0, 1, 2, 3, 0), "++++"))),
            (R4, 3, "net", ("walk", ((0,), ""))), (R4, 3, "net", ("walk", ((0, 1, 0), "+-"))), (R4, 1, "net", ("walk", ((0,), ""))),
            (R4, 1, "net", ("walk", ((0, 1, 2, 3, 0), "++++"))), (R4, 1, "closed", ("walk", ((0, 1), "+"))),
            (LOOP, 3, "net", ("walk", ((0, 0, 0, 0), "---"))), (LOOP, 2, "tie", ("leading", (0,))), (ONE, 1, "shape", ("leading", (1,))),
            (VOID, 1, "shape", ("walk", ((0,), ""))), (VOID, 1, "shape", ("walk", ((), ""))), (VOID, 1, "shape", ("leading", (0,))),
        ]:
            self.assertEqual(self.at_round(own, k, thing), word)

    def test_two_hundred_places(self):
        self.assertIsNone(self.at_round(LOOP, 3, ("walk", ((0,) * 200, "+" * 199))))
        self.assertEqual(self.at_round(LOOP, 3, ("walk", ((0,) * 201, "+" * 200))), "shape")

    def test_things_of_other_kinds(self):
        for own in (VOID, ONE, LOOP, R4):
            for k in (1, 2, 12):
                self.junk_is_refused(lets_round, own, k)
        for paper in [("leading", (2, 3, 0, 1)), ("walk", ((0, 1, 2, 3, 0), "++++"))]:
            for thing in [paper] + spoiled(paper):
                for k in (3, 4):
                    self.at_round(R4, k, thing)

    def test_whoever_wrote_it(self):
        chance = random.Random(710)
        words = dict.fromkeys((None, "shape", "tie", "closed", "net"), 0)
        for own in all_webs(2) + some_webs(711, 150, 4):
            for k in range(1, 5):
                papers = [("leading", f) for f in all_led(own, round_web(k))[:2]]
                if own[0]:
                    papers += [("walk", some_closed_walk(chance, own, chance.randrange(12))), ("walk", some_walk(chance, own, 7))]
                for paper in papers:
                    words[self.at_round(own, k, paper)] += 1
                    words[self.at_round(own, k, otherwise(chance, paper))] += 1
        self.assertTrue(all(many > 60 for many in words.values()), words)


class Line(Asking):
    def test_let_by(self):
        for own, k, paper in [
            (VOID, 0, ("leading", ())), (VOID, 12, ("leading", ())), (ONE, 0, ("walk", (0,))), (ONE, 1, ("leading", (0,))),
            (LOOP, 0, ("walk", (0,))), (LOOP, 12, ("walk", (0,) * 13)), (TIE, 1, ("walk", (0, 1))), (TIE, 2, ("leading", (0, 1))),
            (TIE, 5, ("leading", (2, 4))), (R3, 5, ("walk", (1, 2, 0, 1, 2, 0))), (line_web(4), 4, ("leading", (0, 1, 2, 3))),
            (line_web(4), 3, ("walk", (0, 1, 2, 3))), (line_web(4), 2, ("walk", (0, 2, 3))), (web(3), 1, ("leading", (0, 0, 0))),
        ]:
            self.assertIsNone(self.at_line(own, k, paper))

    def test_each_fault_and_the_first_of_them(self):
        for own, k, word, thing in [
            (TIE, 2, "tie", ("leading", (1, 0))), (TIE, 2, "tie", ("leading", (0, 0))), (TIE, 2, "shape", ("leading", (0, 2))),
            (TIE, 2, "shape", ("leading", (0,))), (TIE, 2, "shape", ("leading", (0, 1, 2))), (TIE, 0, "shape", ("leading", (0, 0))),
            (TIE, 0, "shape", ("leading", ())), (TIE, 2, "shape", ("leading", (0, True))), (TIE, 2, "shape", ("leading", [0, 1])),
            (TIE, 2, "shape", ("leading", (-1, 1))), (TIE, 1, "tie", ("walk", (1, 0))), (TIE, 1, "tie", ("walk", (0, 0))),
            (TIE, 1, "shape", ("walk", (0,))), (TIE, 1, "shape", ("walk", (0, 1, 0))), (TIE, 0, "shape", ("walk", ())),
            (TIE, 0, "shape", ("walk", (2,))), (TIE, 1, "shape", ("walk", (0, True))), (TIE, 1, "shape", ("walk", [0, 1])),
            (TIE, 1, "shape", ("walk", ((0, 1), "+"))), (TIE, 1, "shape", ("walk", "01")), (TIE, 1, "shape", ("walk", (0, "1"))),
            (TIE, 2, "tie", ("walk", (0, 1, 0))), (R3, 3, "tie", ("walk", (0, 1, 2, 1))), (VOID, 0, "shape", ("walk", (0,))),
            (VOID, 0, "shape", ("walk", ())), (VOID, 3, "shape", ("leading", (0,))), (ONE, 0, "shape", ("leading", (0,))),
            (LOOP, 12, "shape", ("walk", (0,) * 12)), (LOOP, 12, "shape", ("walk", (0,) * 14)), (LOOP, 3, "tie", ("leading", (1,))),
        ]:
            self.assertEqual(self.at_line(own, k, thing), word)

    def test_things_of_other_kinds(self):
        for own in (VOID, ONE, LOOP, R3):
            for k in (0, 1, 12):
                self.junk_is_refused(lets_line, own, k)
        for paper in [("leading", (0, 1, 3)), ("walk", (0, 1, 2))]:
            for thing in [paper] + spoiled(paper):
                for k in (2, 4):
                    self.at_line(way_web(">>"), k, thing)

    def test_whoever_wrote_it(self):
        chance = random.Random(712)
        words = dict.fromkeys((None, "shape", "tie"), 0)
        for own in all_webs(2) + some_webs(713, 150, 4):
            for k in range(5):
                papers = [("leading", f) for f in all_led(own, line_web(k))[:2]]
                walks = [walk for walk in itertools.product(range(own[0]), repeat=min(k, 3) + 1)]
                papers += [("walk", walk) for walk in chance.sample(walks, min(len(walks), 3))]
                for paper in papers:
                    words[self.at_line(own, k, paper)] += 1
                    words[self.at_line(own, k, otherwise(chance, paper))] += 1
        self.assertTrue(all(many > 100 for many in words.values()), words)


class Two(Asking):
    def test_let_by(self):
        for own, paper in [
            (VOID, ("leading", ())), (ONE, ("leading", (0,))), (ONE, ("leading", (1,))), (LOOP, ("walk", ((0, 0), "+"))),
            (TIE, ("leading", (1, 0))), (R4, ("leading", (0, 1, 0, 1))), (R3, ("walk", ((0, 1, 2, 0), "+++"))),
            (R3, ("walk", ((0, 2, 1, 0), "---"))), (line_web(3), ("walk", ((0, 1, 2, 0), "++-"))),
            (LOOP, ("walk", ((0,) * 200, "+-" * 99 + "+"))), (LOOP, ("walk", ((0, 0, 0, 0), "+-+"))),
        ]:
            self.assertIsNone(self.at_two(own, paper))

    def test_each_fault_and_the_first_of_them(self):
        for own, word, thing in [
            (TIE, "tie", ("leading", (0, 0))), (TIE, "tie", ("leading", (1, 1))), (TIE, "shape", ("leading", (0, 2))),
            (TIE, "shape", ("leading", (0,))), (TIE, "shape", ("leading", (0, True))), (TIE, "shape", ("leading", (0, 1, 0))),
            (TIE, "shape", ("walk", (0, 1))), (TIE, "shape", ("walk", ((), ""))), (TIE, "shape", ("walk", ((0, 1), ""))),
            (TIE, "tie", ("walk", ((0, 1), "-"))), (TIE, "tie", ("walk", ((0, 1, 0), "++"))), (TIE, "closed", ("walk", ((0, 1), "+"))),
            (TIE, "closed", ("walk", ((0, 1, 0, 1), "+-+"))), (TIE, "odd", ("walk", ((0, 1, 0), "+-"))), (TIE, "odd", ("walk", ((1,), ""))),
            (LOOP, "odd", ("walk", ((0, 0, 0), "++"))), (LOOP, "tie", ("leading", (0,))), (R4, "odd", ("walk", ((0, 1, 2, 3, 0), "++++"))),
            (VOID, "shape", ("walk", ((0,), ""))), (VOID, "shape", ("leading", (0,))), (LOOP, "shape", ("walk", ((0,) * 202, "+" * 201))),
        ]:
            self.assertEqual(self.at_two(own, thing), word)

    def test_things_of_other_kinds(self):
        for own in (VOID, ONE, LOOP, R3):
            self.junk_is_refused(lets_two, own)
        for own, paper in [(R4, ("leading", (0, 1, 0, 1))), (R3, ("walk", ((0, 1, 2, 0), "+++")))]:
            for thing in [paper] + spoiled(paper):
                self.at_two(own, thing)

    def test_whoever_wrote_it(self):
        chance = random.Random(714)
        words = dict.fromkeys((None, "shape", "tie", "closed", "odd"), 0)
        for own in all_webs(2) + some_webs(715, 200, 5):
            papers = [("leading", f) for f in all_led(own, all_web(2))[:3]]
            if own[0]:
                papers += [("walk", some_closed_walk(chance, own, chance.randrange(12))) for _ in range(4)]
                papers += [("walk", some_walk(chance, own, 7))]
            for paper in papers:
                words[self.at_two(own, paper)] += 1
                words[self.at_two(own, otherwise(chance, paper))] += 1
        self.assertTrue(all(many > 60 for many in words.values()), words)


if __name__ == "__main__":
    unittest.main()
