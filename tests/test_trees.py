"""Point [67]: trees of a web, and their images."""

import itertools
import random
import unittest

from helper import (
    JUNK, Promise, all_led, all_webs, images_of, leads, nested, otherwise, some_lists, some_tree, some_web, some_webs,
    spoiled, tree_led_on, web,
)
from webintoweb.families import all_web, line_web, round_web, way_web
from webintoweb.leadings import full_lists
from webintoweb.trees import images, is_tree

VOID, ONE, LOOP = web(0), web(1), web(1, (0, 0))
TIE, R2, R3 = web(2, (0, 1)), round_web(2), round_web(3)


def is_tree_of(own, thing):
    """Whether a thing is a tree, by the very words of the document, however many and deep."""
    def place(k):
        return isinstance(k, int) and not isinstance(k, bool) and k in range(own[0])

    def branch(a, inner):
        if not isinstance(inner, tuple) or len(inner) != 2 or not is_tree_of(own, inner[1]):
            return False
        b = inner[1][0]
        return inner[0] == "out" and (a, b) in own[1] or inner[0] == "in" and (b, a) in own[1]

    return isinstance(thing, tuple) and len(thing) == 2 and place(thing[0]) and isinstance(thing[1], tuple) and \
        all(branch(thing[0], inner) for inner in thing[1])


def chain(deep, own=(0, 0), way="out"):
    """A tree of deep trees within one another whose places take turns."""
    tree = (own[(deep - 1) % 2], ())
    for at in range(deep - 2, -1, -1):
        tree = (own[at % 2], ((way, tree),))
    return tree


class Tree(Promise):
    def test_by_hand(self):
        self.tells(True, is_tree, ONE, (0, ()))
        self.tells(True, is_tree, LOOP, (0, ()))
        self.tells(True, is_tree, LOOP, (0, (("out", (0, ())), ("in", (0, ())))))
        self.tells(False, is_tree, ONE, (0, (("out", (0, ())),)))
        self.tells(True, is_tree, TIE, (0, (("out", (1, ())),)))
        self.tells(True, is_tree, TIE, (1, (("in", (0, ())),)))
        self.tells(False, is_tree, TIE, (0, (("in", (1, ())),)))
        self.tells(False, is_tree, TIE, (1, (("out", (0, ())),)))
        self.tells(False, is_tree, TIE, (0, (("out", (0, ())),)))
        self.tells(True, is_tree, TIE, (0, (("out", (1, (("in", (0, ())), ("in", (0, ()))))),) * 3))
        self.tells(False, is_tree, TIE, (0, (("out", (1, (("in", (0, ())), ("out", (0, ()))))),) * 3))
        self.tells(False, is_tree, VOID, (0, ()))

    def test_ties_one_way_and_the_other(self):
        for own in all_webs(2) + [R3, line_web(3)]:
            for a, b, way in itertools.product(range(own[0]), range(own[0]), ("out", "in")):
                due = ((a, b) if way == "out" else (b, a)) in own[1]
                self.tells(due, is_tree, own, (a, ((way, (b, ())),)))
                # Beside a right one, and within one, too.
                for c, d in own[1]:
                    if c == a:
                        self.tells(due, is_tree, own, (a, (("out", (d, ())), (way, (b, ())))))
                    if d == a:
                        self.tells(due, is_tree, own, (c, (("out", (a, ((way, (b, ())),))),)))

    def test_things_of_other_kinds(self):
        right = (0, (("out", (1, ())), ("in", (2, (("in", (1, ())),)))))
        self.tells(True, is_tree, R3, right)
        for own in (VOID, ONE, LOOP, TIE, R3):
            for thing in JUNK:
                self.tells(False, is_tree, own, thing)
        for thing in spoiled(right) + [
            (), (0,), (0, (), ()), [0, ()], (0, []), (0, None), (0, "out"), (0, ("out", (1, ()))), (0, ((),)), (True, ()),
            (False, ()), (3, ()), (-1, ()), ("0", ()), (None, ()), ((0,), ()), (0, (("out",),)), (0, (("out", (1, ()), ()),)),
            (0, (["out", (1, ())],)), (0, (("out", [1, ()]),)), (0, (("out", (True, ())),)), (0, (("out", (1, [])),)),
            (0, (("Out", (1, ())),)), (0, (("", (1, ())),)), (0, ((None, (1, ())),)), (0, ((0, (1, ())),)),
            (0, (("else", (1, ())),)), (0, ((("out",), (1, ())),)), (0, (("out", None),)), (0, ("oi",)), (0, "x"),
            (0, ((["out"], (1, ())),)), (10 ** 199, ()), (0, (("out", (10 ** 199, ())),)), (0, (("out", (3, ())),)),
            (0, (("in", (-1, ())),)), ((), 0), nested(99, tuple),
        ]:
            self.tells(False, is_tree, R3, thing)

    def test_trees_of_all_sorts(self):
        chance = random.Random(640)
        told = []
        for own in some_webs(641, 200, 5):
            if own[0]:
                tree = some_tree(chance, own, chance.randrange(own[0]), 6)
                self.tells(True, is_tree, own, tree)
                for _ in range(6):
                    thing = otherwise(chance, tree)
                    told.append(is_tree_of(own, thing))
                    self.tells(told[-1], is_tree, own, thing)
                other = some_web(chance, own[0], 5)
                told.append(is_tree_of(other, tree))
                self.tells(told[-1], is_tree, other, tree)
        self.assertTrue(told.count(True) > 100 and told.count(False) > 100)

    def test_thirty_within_one_another(self):
        for deep in (1, 2, 29, 30):
            self.tells(True, is_tree, LOOP, chain(deep))
            self.tells(True, is_tree, LOOP, chain(deep, way="in"))
            self.tells(True, is_tree, R2, chain(deep, (0, 1)))
        for deep in (31, 32, 33):
            self.tells(False, is_tree, LOOP, chain(deep))
            self.tells(False, is_tree, LOOP, chain(deep, way="in"))
            self.tells(False, is_tree, R2, chain(deep, (0, 1)))
        # The deepest branch counts, whatever stands beside it.
        self.tells(True, is_tree, LOOP, (0, (("out", (0, ())), ("in", chain(29)), ("out", chain(3)))))
        self.tells(False, is_tree, LOOP, (0, (("out", (0, ())), ("in", chain(30)), ("out", chain(3)))))

    def test_ten_thousand_in_all(self):
        leaf = ("out", (0, ()))
        for many, due in [(9998, True), (9999, True), (10000, False), (10001, False)]:
            self.tells(due, is_tree, LOOP, (0, (leaf,) * many))
        row = ("in", (0, (leaf,) * 98))
        # A hundred in each of a hundred rows, and the whole one, which counts as well.
        self.tells(True, is_tree, LOOP, (0, (row,) * 100 + (leaf,) * 99))
        self.tells(False, is_tree, LOOP, (0, (row,) * 101 + (leaf,)))
        self.tells(True, is_tree, LOOP, (0, (row,) * 101))
        self.tells(False, is_tree, LOOP, (0, (row,) * 100 + (leaf,) * 100))
        self.tells(True, is_tree, LOOP, (0, (("out", chain(29)),) * 344 + (leaf,) * 23))
        self.tells(False, is_tree, LOOP, (0, (("out", chain(29)),) * 344 + (leaf,) * 24))

    def test_as_deep_as_plain_things_are(self):
        for own in (LOOP, R2):
            for thing in [nested(100, tuple), nested(100, list), (0, nested(99, tuple)), (0, (("out", nested(98, tuple)),)),
                          (0, (("out", nested(97, list)),)), (0, (nested(98, tuple),)), (0, ((nested(97, tuple), (0, ())),))]:
                self.tells(False, is_tree, own, thing)
                self.assertIs(self.shallow(is_tree, own, thing), False)
        # Just thirty, and below them what is as deep as may be.
        deep = nested(100 - 89, tuple)
        for at in range(30):
            deep = (0, (("out", deep),)) if at else (0, deep)
        self.tells(False, is_tree, LOOP, deep)

    def test_what_would_grow_without_end_is_left(self):
        tree = (0, ())
        for _ in range(32):
            tree = (0, (("out", tree),) * 2)
        self.assertIs(is_tree(LOOP, tree), False)

    def test_few_calls_stand_within_one_another(self):
        self.assertIs(self.shallow(is_tree, LOOP, chain(30)), True)
        self.assertIs(self.shallow(is_tree, LOOP, chain(33)), False)
        self.assertEqual(self.shallow(images, LOOP, LOOP, ((0,),), chain(30)), (0,))


class Images(Promise):
    def asked(self, own, other, lists, tree):
        due = images_of(other, lists, tree)
        self.tells(due, images, own, other, lists, tree)
        self.assertTrue(all(f[tree[0]] in due for f in all_led(own, other, lists)))
        return due

    def test_by_hand(self):
        self.tells((0, 1, 2), images, TIE, line_web(3), ((0, 1, 2),) * 2, (0, ()))
        self.tells((0, 1), images, TIE, line_web(3), ((0, 1, 2),) * 2, (0, (("out", (1, ())),)))
        self.tells((1, 2), images, TIE, line_web(3), ((0, 1, 2),) * 2, (1, (("in", (0, ())),)))
        self.tells((0,), images, TIE, line_web(3), ((0, 1, 2), (0, 1)), (0, (("out", (1, ())),)))
        self.tells((), images, TIE, line_web(3), ((0, 1, 2), ()), (0, (("out", (1, ())),)))
        self.tells((0, 1, 2), images, TIE, line_web(3), ((0, 1, 2), ()), (0, ()))
        self.tells((), images, TIE, line_web(3), ((), (0, 1, 2)), (0, ()))
        self.tells((1,), images, way_web(">>"), line_web(3), ((0, 1, 2),) * 3, (1, (("in", (0, ())), ("out", (2, ())))))
        self.tells((), images, LOOP, line_web(3), ((0, 1, 2),), (0, (("out", (0, (("out", (0, (("out", (0, ())),))),))),)))
        self.tells((0,), images, LOOP, line_web(3), ((0, 1, 2),), (0, (("out", (0, (("out", (0, ())),))),)))
        self.tells((), images, ONE, VOID, ((),), (0, ()))

    def test_trees_and_lists_of_all_sorts(self):
        chance = random.Random(642)
        told = []
        for own, other in zip(some_webs(643, 300, 5), some_webs(644, 300, 4)):
            if own[0]:
                lists = some_lists(chance, own, other, chance.randrange(5, 11))
                told.append(self.asked(own, other, lists, some_tree(chance, own, chance.randrange(own[0]), 6)))
        self.assertTrue(told.count(()) > 20 and len(told) - told.count(()) > 100)

    def test_many_and_deep(self):
        chance = random.Random(645)
        own, other = some_web(chance, 7, 5), some_web(chance, 5, 5)
        tree = (0, tuple((way, some_tree(chance, own, b, 12)) for way in ("out", "in")
                         for b in range(7) if ((0, b) if way == "out" else (b, 0)) in own[1]))
        self.asked(own, other, full_lists(own, other), tree)
        leaf = ("out", (0, ()))
        self.tells((0, 1), images, LOOP, all_web(2), ((0, 1),), (0, (leaf,) * 9999))
        # By a chain the images of a round go back and forth as its places do.
        self.tells((1,), images, R2, R2, ((0, 1), (0,)), chain(30, (0, 1)))
        self.tells((0,), images, R2, R2, ((0, 1), (0,)), chain(29, (1, 0)))

    def test_led_on_by_a_leading(self):
        chance = random.Random(646)
        many = 0
        for own, other in zip(some_webs(647, 120, 4), some_webs(648, 120, 3)):
            onto = some_web(chance, chance.randrange(1, 5), 6)
            found = all_led(own, onto)
            if own[0] and found:
                h = chance.choice(found)
                lists_there = some_lists(chance, onto, other, 8)
                lists = tuple(lists_there[b] for b in h)
                tree = some_tree(chance, own, chance.randrange(own[0]), 6)
                there = tree_led_on(tree, h)
                self.assertTrue(leads(own, onto, h))
                self.tells(True, is_tree, onto, there)
                self.tells(images(own, other, lists, tree), images, onto, other, lists_there, there)
                many += 1
        self.assertGreater(many, 30)


if __name__ == "__main__":
    unittest.main()
