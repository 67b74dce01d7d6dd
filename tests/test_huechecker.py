"""Points [75] and [77]: hues papers and hue trees, and their checkers."""

import random
import unittest

from helper import (
    EIGHT, JUNK, Promise, all_led, all_webs, leads, least_hues, nested, otherwise, refusal_due, some_paper, some_tied,
    some_webs, spoiled, web,
)
from webintoweb.errors import NoPaper
from webintoweb.families import all_web, round_web, way_web
from webintoweb.finding import led
from webintoweb.huechecker import lets_hues, shown_by
from webintoweb.hues import hue_poly, hue_tree, hues_told, merged, taken_out, value_at
from webintoweb.leadings import full_lists

VOID, ONE, LOOP = web(0), web(1), web(1, (0, 0))
TIE, R2, R3, R4 = web(2, (0, 1)), round_web(2), round_web(3), round_web(4)
FREE = ("free",)
# A round of three isn't led into two places: led to 0 or to 1, the first leaves nothing for the last.
PAPER = ((), ("cases", 0, (
    (((1, 0, 0, "in"), (2, 0, 0, "out"), (1, 1, 2, "out")), ("void", 1)),
    (((1, 1, 0, "in"), (2, 1, 0, "out"), (2, 0, 1, "in")), ("void", 2)))))
HUES = ("hues", 3, (0, 1, 2), PAPER)


def place(k, n):
    return isinstance(k, int) and not isinstance(k, bool) and k in range(n)


def hues_due(own, thing):
    """The (path, word, number) that is due, or None, by the very words of the document."""
    if not isinstance(thing, tuple) or not thing or not isinstance(thing[0], str):
        return ((), "shape", 0)
    if thing[0] == "loop" and len(thing) == 2 and place(thing[1], own[0]):
        return None if (thing[1], thing[1]) in own[1] else ((), "loop", 0)
    if thing[0] != "hues" or len(thing) != 4 or not place(thing[1], 7) or not isinstance(thing[2], tuple):
        return ((), "shape", 0)
    word, k, f, paper = thing
    if len(f) != own[0] or not all(place(x, k) for x in f):
        return ((), "shape", 0)
    if not leads(own, all_web(k), f):
        return ((), "tie", 0)
    if k == 0:
        return None if paper is None else ((), "none", 0)
    return refusal_due(own, all_web(k - 1), full_lists(own, all_web(k - 1)), paper)


class Hues(Promise):
    def as_due(self, own, thing):
        due = hues_due(own, thing)
        if due:
            self.refuses(NoPaper, due, lets_hues, own, thing)
            return due[1]
        self.tells(True, lets_hues, own, thing)
        self.assertEqual(least_hues(own), thing[1] if thing[0] == "hues" else None)
        return "right"

    def refused(self, due, own, thing):
        self.refuses(NoPaper, due, lets_hues, own, thing)
        self.assertEqual(hues_due(own, thing), due)

    def test_let_by(self):
        for own, paper in [
            (VOID, ("hues", 0, (), None)), (ONE, ("hues", 1, (0,), ((), ("void", 0)))), (LOOP, ("loop", 0)),
            (ONE, ("hues", 1, (0,), ((), ("cases", 0, ())))), (web(3, (0, 1), (2, 2)), ("loop", 2)), (R3, HUES),
            (R3, ("hues", 3, (2, 0, 1), PAPER)), (web(6), ("hues", 1, (0,) * 6, ((), ("void", 4)))),
            (TIE, ("hues", 2, (1, 0), (((0, 0, 1, "out"),), ("void", 0)))),
        ]:
            self.assertEqual(self.as_due(own, paper), "right")

    def test_shape(self):
        for own in (VOID, ONE, LOOP, R3):
            for thing in list(JUNK) + [
                (), ("loop",), ("loop", own[0]), ("loop", -1), ("loop", True), ("loop", False), ("loop", None), ("loop", "0"),
                ("loop", (0,)), ("Loop", 0), ["loop", 0], ("loop", 0, 0), ("hues",), ("hues", 1, (0,) * own[0]),
                ("hues", 7, (0,) * own[0], None), ("hues", -1, (), None), ("hues", True, (0,) * own[0], None), ("loop", 10 ** 199),
                ("hues", "1", (0,) * own[0], None), ("hues", None, (0,) * own[0], None), ("hues", 2, [0] * own[0], None),
                ("hues", 2, (0,) * own[0] + (1,), None), ("hues", 2, (2,) * (own[0] + 1), None), ("hues", 2, None, None),
                ("hues", 10 ** 199, (0,) * own[0], None), ("hue", 1, (0,) * own[0], None), (None, 1, (0,) * own[0], None),
                (("hues",), 1, (0,) * own[0], None), ["hues", 1, (0,) * own[0], None], ("hues", 1, (0,) * own[0], None, None),
                ("hues", 1, "0" * own[0], PAPER), nested(99, tuple), ("hues", 2, nested(98, tuple), None),
            ]:
                self.refused(((), "shape", 0), own, thing)
        for f in [(0, 1), (0, 1, 3), (0, 1, -1), (0, 1, True), (0, 1, "2"), (0, 1, None), (0, 1, (2,)), [0, 1, 2], (0, 1, 2, 0)]:
            self.refused(((), "shape", 0), R3, ("hues", 3, f, PAPER))
        self.refused(((), "shape", 0), R3, ("hues", 0, (), None))
        self.refused(((), "shape", 0), R3, ("hues", 0, (0, 0, 0), None))

    def test_loop_and_tie(self):
        self.refused(((), "loop", 0), ONE, ("loop", 0))
        self.refused(((), "loop", 0), web(3, (0, 1), (2, 2)), ("loop", 0))
        self.refused(((), "loop", 0), R2, ("loop", 1))
        for f in [(0, 0, 1), (1, 0, 1), (2, 2, 2)]:
            self.refused(((), "tie", 0), R3, ("hues", 3, f, PAPER))
            self.refused(((), "tie", 0), R3, ("hues", 3, f, None))
        self.refused(((), "tie", 0), LOOP, ("hues", 1, (0,), ((), ("void", 0))))
        self.refused(((), "tie", 0), LOOP, ("hues", 6, (5,), None))

    def test_as_the_none_checker_refuses(self):
        hues = HUES[:3]
        self.refused(((), "shape", -1), R3, hues + (None,))
        self.refused(((), "shape", -1), R3, hues + ([],))
        self.refused(((), "strike", 0), R3, hues + ((((0, 0, 1, "out"),), ("void", 0)),))
        self.refused(((), "void", 1), R3, hues + (((), ("void", 1)),))
        self.refused(((), "parts", 2), R3, hues + (((), ("cases", 1, ())),))
        self.refused(((0,), "strike", 0), R3, hues + (((), ("cases", 0, PAPER[1][2][::-1])),))
        self.refused(((1,), "shape", -1), R3, hues + (((), ("cases", 0, (PAPER[1][2][0], None))),))
        self.refused(((1,), "void", 0), R3, hues + (((), ("cases", 0, (PAPER[1][2][0], ((), ("void", 0))))),))
        # More hues than are needed: no paper is let by.
        self.refused(((), "void", 0), R3, ("hues", 4, (0, 1, 2), ((), ("void", 0))))
        self.refused(((0,), "strike", 2), R3, ("hues", 4, (0, 1, 2), ((), ("cases", 0, PAPER[1][2][:1] * 3))))

    def test_without_places_and_without_hues(self):
        for paper in [(), 0, False, "", ((), ("void", 0)), (None,), [None]]:
            self.refused(((), "none", 0), VOID, ("hues", 0, (), paper))
        # One hue is one more than the web without places needs.
        for paper in [None, (), ((), ("void", 0)), ((), ("cases", 0, ()))]:
            self.refused(((), "shape", -1), VOID, ("hues", 1, (), paper))
        self.refused(((), "shape", 0), VOID, ("hues", 0, (0,), None))
        self.refused(((), "shape", -1), ONE, ("hues", 1, (0,), None))

    def test_things_of_other_kinds_at_any_depth(self):
        for own, paper in [(R3, HUES), (LOOP, ("loop", 0)), (VOID, ("hues", 0, (), None)), (TIE, hues_told(TIE))]:
            for thing in [paper] + spoiled(paper):
                self.as_due(own, thing)

    def test_whoever_wrote_it(self):
        chance = random.Random(740)
        words = dict.fromkeys(("right", "shape", "loop", "tie", "strike", "void", "parts"), 0)
        webs = all_webs(2) + some_webs(741, 40, 3) + [some_tied(chance, n, most) for n in (3, 4, 5) for most in range(1, 10)]
        for own in webs:
            least = least_hues(own)
            if least is None:
                papers = [("loop", a) for a in range(own[0])]
            elif own[0] == 0:
                papers = [("hues", 0, (), None)]
            else:
                V = all_web(least - 1)
                found = all_led(own, all_web(least))
                papers = [("hues", least, chance.choice(found), some_paper(chance, own, V, full_lists(own, V))) for _ in range(2)]
            for paper in papers:
                words[self.as_due(own, paper)] += 1
                for _ in range(6):
                    word = self.as_due(own, otherwise(chance, paper))
                    words[word] = words.get(word, 0) + 1
        self.assertTrue(all(many > 8 for many in words.values()), words)

    def test_six_places(self):
        for own in (all_web(6), EIGHT, way_web("><><>"), round_web(5), web(6)):
            paper = hues_told(own)
            self.assertEqual(self.as_due(own, paper), "right")
            for k in range(7):
                # Another k with a leading and whatever paper there is of k - 1: just one is right.
                if k != paper[1]:
                    word, f = led(own, all_web(k), full_lists(own, all_web(k)))
                    thing = ("hues", k, f if word == "leading" else (0,) * 6, paper[3])
                    self.assertNotEqual(self.as_due(own, thing), "right")


def poly_due(own, thing, path=()):
    """The poly that a thing shows, or the (path, word, 0) that is due, by the very words of the document."""
    if not isinstance(thing, tuple) or not thing or not isinstance(thing[0], str):
        return (path, "shape", 0)
    if thing == ("free",):
        return (path, "free", 0) if own[1] else [0] * own[0] + [1]
    if thing == ("loop",):
        return [] if any(a == b for a, b in own[1]) else (path, "loop", 0)
    if thing[0] != "tie" or len(thing) != 5 or not place(thing[1], own[0]) or not place(thing[2], own[0]):
        return (path, "shape", 0)
    word, a, b, first, second = thing
    if a >= b:
        return (path, "shape", 0)
    if (a, b) not in own[1] and (b, a) not in own[1]:
        return (path, "tie", 0)
    one = poly_due(taken_out(own, a, b), first, path + (0,))
    if isinstance(one, tuple):
        return one
    other = poly_due(merged(own, a, b), second, path + (1,))
    if isinstance(other, tuple):
        return other
    long = max(len(one), len(other))
    found = [p - q for p, q in zip(one + [0] * (long - len(one)), other + [0] * (long - len(other)))]
    while found and not found[-1]:
        del found[-1]
    return found


def some_hue_tree(chance, own):
    """A hue tree as anyone might write it."""
    ties = sorted({(min(tie), max(tie)) for tie in own[1] if tie[0] != tie[1]})
    if any(a == b for a, b in own[1]) and (not ties or chance.randrange(3)):
        return ("loop",)
    if not own[1]:
        return FREE
    a, b = chance.choice(ties)
    return ("tie", a, b, some_hue_tree(chance, taken_out(own, a, b)), some_hue_tree(chance, merged(own, a, b)))


class Shown(Promise):
    def as_due(self, own, thing):
        due = poly_due(own, thing)
        if isinstance(due, tuple):
            self.refuses(NoPaper, due, shown_by, own, thing)
            return due[1]
        self.tells(tuple(due), shown_by, own, thing)
        for k in range(4):
            self.assertEqual(value_at(tuple(due), k), len(all_led(own, all_web(k))))
        return "right"

    def refused(self, due, own, thing):
        self.refuses(NoPaper, due, shown_by, own, thing)
        self.assertEqual(poly_due(own, thing), due)

    def test_by_hand(self):
        self.tells((1,), shown_by, VOID, FREE)
        self.tells((0, 1), shown_by, ONE, FREE)
        self.tells((0, 0, 0, 1), shown_by, web(3), FREE)
        self.tells((), shown_by, LOOP, ("loop",))
        self.tells((), shown_by, web(2, (0, 1), (1, 1)), ("loop",))
        self.tells((), shown_by, web(2, (0, 1), (1, 1)), ("tie", 0, 1, ("loop",), ("loop",)))
        self.tells((0, -1, 1), shown_by, TIE, ("tie", 0, 1, FREE, FREE))
        self.tells((0, -1, 1), shown_by, R2, ("tie", 0, 1, FREE, FREE))
        two = ("tie", 0, 1, FREE, FREE)
        three = ("tie", 1, 2, ("tie", 0, 1, ("tie", 0, 2, FREE, FREE), two), two)
        self.tells((0, 2, -3, 1), shown_by, R3, three)
        self.refused(((1,), "free", 0), R3, three[:4] + (FREE,))
        self.refused(((0, 1), "loop", 0), R3, three[:3] + (three[3][:4] + (("loop",),), FREE))

    def test_each_word(self):
        two = ("tie", 0, 1, FREE, FREE)
        self.refused(((), "free", 0), TIE, FREE)
        self.refused(((), "free", 0), LOOP, FREE)
        self.refused(((), "loop", 0), TIE, ("loop",))
        self.refused(((), "loop", 0), VOID, ("loop",))
        self.refused(((), "tie", 0), web(2), two)
        self.refused(((), "tie", 0), web(2, (0, 0), (1, 1)), two)
        self.refused(((), "tie", 0), way_web(">>"), ("tie", 0, 2, FREE, FREE))
        self.refused(((0,), "tie", 0), TIE, ("tie", 0, 1, two, FREE))
        self.refused(((1,), "shape", 0), TIE, ("tie", 0, 1, FREE, two))
        self.refused(((0,), "shape", 0), TIE, ("tie", 0, 1, None, None))
        self.refused(((1,), "shape", 0), TIE, ("tie", 0, 1, FREE, None))
        self.refused(((1,), "loop", 0), TIE, ("tie", 0, 1, FREE, ("loop",)))
        # A place that is there no more when both are drawn together.
        self.refused(((1,), "shape", 0), way_web(">>"), ("tie", 0, 1, ("tie", 1, 2, FREE, FREE), ("tie", 1, 2, FREE, FREE)))

    def test_the_first_fault_counts(self):
        # What stands at the path ahead of what is within it; the first one with all in it ahead of the second.
        self.refused(((), "tie", 0), web(2), ("tie", 0, 1, None, None))
        self.refused(((0, 0), "free", 0), R3, ("tie", 0, 1, ("tie", 1, 2, FREE, None), None))
        self.refused(((0, 1), "shape", 0), R3, ("tie", 0, 1, ("tie", 1, 2, ("tie", 0, 2, FREE, FREE), None), None))

    def test_shape(self):
        for own in (VOID, ONE, LOOP, TIE, R3):
            for thing in list(JUNK) + [
                (), ["free"], ("free", ()), ("Free",), "free", ("loop", 0), ["loop"], ("tie",), ("tie", 0, 1), ("tie", 0, 1, FREE),
                ("tie", 1, 0, FREE, FREE), ("tie", 0, 0, FREE, FREE), ("tie", 0, own[0], FREE, FREE), ("tie", -1, 0, FREE, FREE),
                ("tie", False, 1, FREE, FREE), ("tie", 0, True, FREE, FREE), ("tie", "0", 1, FREE, FREE), ("tie", 0, None, FREE, FREE),
                ("tie", (0,), 1, FREE, FREE), ("tie", 0, 1, FREE, FREE, FREE), ["tie", 0, 1, FREE, FREE], ("ties", 0, 1, FREE, FREE),
                (None,), (("free",),), (True,), nested(99, tuple), ("tie", 0, 10 ** 199, FREE, FREE), ("free", "free"),
            ]:
                self.refused(((), "shape", 0), own, thing)

    def test_things_of_other_kinds_at_any_depth(self):
        for own in (TIE, R3, R4, web(2, (0, 1), (1, 1))):
            for thing in spoiled(hue_tree(own)):
                self.as_due(own, thing)

    def test_whoever_wrote_it_the_same_poly_for_all_trees(self):
        chance = random.Random(742)
        words = dict.fromkeys(("right", "shape", "free", "loop", "tie"), 0)
        webs = all_webs(2) + some_webs(743, 50, 4) + [some_tied(chance, n, most) for n in (3, 4, 5, 6) for most in range(2, 9)]
        for own in webs:
            for _ in range(3):
                tree = some_hue_tree(chance, own)
                self.assertEqual(self.as_due(own, tree), "right")
                self.tells(hue_poly(own), shown_by, own, tree)
                for _ in range(4):
                    words[self.as_due(own, otherwise(chance, tree))] += 1
        self.assertTrue(all(many > 10 for many in words.values()), words)

    def test_as_deep_as_plain_things_are(self):
        first, second = FREE, FREE
        for _ in range(98):
            first, second = ("tie", 0, 1, first, FREE), ("tie", 0, 1, FREE, second)
        self.refused(((0,), "tie", 0), R2, first)
        self.refused(((1,), "shape", 0), R2, second)
        self.assertEqual(self.shallow(shown_by, EIGHT, hue_tree(EIGHT)), hue_poly(EIGHT))
        self.assertEqual(self.shallow(shown_by, all_web(6), hue_tree(all_web(6))), hue_poly(all_web(6)))


if __name__ == "__main__":
    unittest.main()
