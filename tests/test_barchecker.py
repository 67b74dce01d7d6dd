"""Point [68]: bars, and their checker."""

import itertools
import random
import unittest

from helper import (
    JUNK, Promise, all_led, all_webs, images_of, nested, otherwise, some_lists, some_tree, some_webs, spoiled, web,
)
from webintoweb.barchecker import lets_bar
from webintoweb.errors import NoBar
from webintoweb.families import all_web, line_web, round_web, way_web
from webintoweb.leadings import full_lists
from webintoweb.trees import is_tree

VOID, ONE, LOOP = web(0), web(1), web(1, (0, 0))
TIE, R2, R3 = web(2, (0, 1)), round_web(2), round_web(3)
THREE = way_web(">>")
# From the first of three places two ties go on, in the line of two one alone.
BAR = (0, (("out", (1, (("out", (2, ())),))),))


class Bars(Promise):
    def lets(self, own, other, lists, tree):
        self.tells(True, lets_bar, own, other, lists, tree)
        self.assertEqual(images_of(other, lists, tree), ())
        self.assertEqual(all_led(own, other, lists), [])

    def as_due(self, own, other, lists, thing):
        if not is_tree(own, thing):
            due = "shape"
        elif images_of(other, lists, thing):
            due = "led"
        else:
            self.lets(own, other, lists, thing)
            return "right"
        self.refuses(NoBar, (due,), lets_bar, own, other, lists, thing)
        return due

    def test_let_by(self):
        self.lets(THREE, line_web(2), ((0, 1),) * 3, BAR)
        self.lets(THREE, line_web(2), ((0, 1),) * 3, (1, (("in", (0, ())), ("out", (2, ())))))
        self.lets(ONE, VOID, ((),), (0, ()))
        self.lets(TIE, all_web(2), ((0, 1), ()), (1, ()))
        self.lets(TIE, all_web(2), ((0, 1), ()), (0, (("out", (1, ())),)))
        self.lets(LOOP, ONE, ((0,),), (0, (("out", (0, ())),)))
        self.lets(LOOP, ONE, ((0,),), (0, (("in", (0, ())),)))
        self.lets(R2, line_web(2), ((0, 1),) * 2, (0, (("out", (1, ())), ("in", (1, ())))))

    def test_shape_ahead_of_all_else(self):
        lists = ((0, 1),) * 3
        for thing in list(JUNK) + spoiled(BAR) + [(0, BAR[1] * 2 + (("in", (1, ())),)), nested(99, tuple), (3, ()), (True, ())]:
            self.refuses(NoBar, ("shape",), lets_bar, THREE, line_web(2), lists, thing)
            # What has no images because its list is void is no tree for that.
            self.refuses(NoBar, ("shape",), lets_bar, THREE, line_web(2), ((),) * 3, thing)
        for other in (VOID, ONE, R3):
            for thing in (None, (), (0, ()), BAR):
                self.refuses(NoBar, ("shape",), lets_bar, VOID, other, (), thing)

    def test_thirty_and_ten_thousand(self):
        deep = (0, ())
        for _ in range(29):
            deep = (0, (("out", deep),))
        self.lets(LOOP, ONE, ((0,),), deep)
        self.refuses(NoBar, ("shape",), lets_bar, LOOP, ONE, ((0,),), (0, (("out", deep),)))
        leaf = ("out", (0, ()))
        self.lets(LOOP, ONE, ((0,),), (0, (leaf,) * 9999))
        self.refuses(NoBar, ("shape",), lets_bar, LOOP, ONE, ((0,),), (0, (leaf,) * 10000))
        self.refuses(NoBar, ("led",), lets_bar, LOOP, LOOP, ((0,),), deep)

    def test_led(self):
        for tree in [(0, ()), (1, ()), (2, ()), (0, (("out", (1, ())),)), (1, (("out", (2, ())),)), (1, (("in", (0, ())),))]:
            self.refuses(NoBar, ("led",), lets_bar, THREE, line_web(2), ((0, 1),) * 3, tree)
        self.refuses(NoBar, ("led",), lets_bar, THREE, line_web(3), ((0, 1, 2),) * 3, BAR)
        self.refuses(NoBar, ("led",), lets_bar, TIE, all_web(2), ((0, 1), ()), (0, ()))

    def test_things_of_all_sorts(self):
        chance = random.Random(650)
        words = []
        for own, other in zip(some_webs(651, 250, 4), some_webs(652, 250, 3)):
            if own[0]:
                lists = some_lists(chance, own, other, chance.randrange(5, 11))
                for _ in range(4):
                    tree = some_tree(chance, own, chance.randrange(own[0]), 5)
                    words.append(self.as_due(own, other, lists, tree))
                    words.append(self.as_due(own, other, lists, otherwise(chance, tree)))
        self.assertTrue(all(words.count(word) > 60 for word in ("right", "led", "shape")))

    def test_where_a_leading_keeps_the_lists_nothing_is_let_by(self):
        chance = random.Random(653)
        for own, other in itertools.product(all_webs(2), repeat=2):
            if all_led(own, other):
                for a in range(2):
                    tree = some_tree(chance, own, a, 8)
                    self.refuses(NoBar, ("led",), lets_bar, own, other, full_lists(own, other), tree)


if __name__ == "__main__":
    unittest.main()
