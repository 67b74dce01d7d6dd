"""Point [21]: classes, and webs drawn together by them."""

import itertools
import random
import unittest

from helper import JUNK, Promise, all_led, all_webs, some_webs, spoiled, web
from webintoweb.drawing import are_classes, drawn, taken_apart
from webintoweb.families import all_web, round_web
from webintoweb.leadings import behind, classes_of, is_leading, is_one_to_one, is_onto
from webintoweb.webs import is_web


def all_classes(n):
    """All classes of n places, each place put into a class there is, or a new one."""
    found = [[]]
    for a in range(n):
        grown = []
        for classes in found:
            grown.append(classes + [[a]])
            for k in range(len(classes)):
                grown.append([row + [a] if j == k else row for j, row in enumerate(classes)])
        found = grown
    return [tuple(tuple(row) for row in classes) for classes in found]


class AreClasses(Promise):
    def test_right_ones(self):
        for n, many in enumerate((1, 1, 2, 5, 15, 52)):
            found = all_classes(n)
            self.assertEqual(len(found), many)
            for classes in found:
                self.tells(True, are_classes, web(n), classes)
        self.tells(True, are_classes, all_web(24), (tuple(range(24)),))
        self.tells(True, are_classes, all_web(24), tuple((k,) for k in range(24)))

    def test_among_all_tuples_of_rows(self):
        rows = [row for size in range(4) for row in itertools.permutations(range(3), size)]
        due = set(all_classes(3))
        for size in range(4):
            for thing in itertools.product(rows, repeat=size):
                self.assertEqual(are_classes(web(3), thing), thing in due)

    def test_wrong_ones(self):
        for thing in [
            (), ((),), ((0, 1),), ((0, 1), ()), ((), (0, 1), (2,)), ((0, 1), (2,), ()), ((2,), (0, 1)),
            ((1, 0), (2,)), ((0, 0, 1), (2,)), ((0, 1), (1, 2)), ((0, 1), (2,), (2,)), ((0, 1), (2, 3)),
            ((0, 1), (3,)), ((-1, 0, 1), (2,)), ((0, 1), (2,), (3,)), ((0, 2), (1, 2)), ((0, 1, 2), 3),
            ((0, 1), (10 ** 199,)), (0, 1, 2), ("0", "1", "2"), ((0,), (2,), (1,)),
        ]:
            self.tells(False, are_classes, web(3), thing)

    def test_things_of_other_kinds_within(self):
        for classes in all_classes(3):
            for thing in spoiled(classes):
                self.tells(False, are_classes, web(3), thing)
        for thing in JUNK:
            self.tells(False, are_classes, web(3), thing)

    def test_of_no_places(self):
        self.tells(True, are_classes, web(0), ())
        for thing in spoiled(()) + [((),), ((0,),), [()]]:
            self.tells(False, are_classes, web(0), thing)


class Drawn(Promise):
    def test_by_hand(self):
        self.tells((web(0), ()), drawn, web(0), ())
        self.tells((web(1, (0, 0)), (0, 0)), drawn, web(2, (0, 1)), ((0, 1),))
        self.tells((web(2, (0, 1), (1, 0), (1, 1)), (0, 1, 0, 1)), drawn,
                   web(4, (0, 1), (1, 2), (3, 1)), ((0, 2), (1, 3)))
        self.tells((web(1), (0,) * 24), drawn, web(24), (tuple(range(24)),))

    def test_tie_for_tie(self):
        for W in all_webs(2) + some_webs(40, 12, 5):
            for classes in all_classes(W[0]):
                told, leading = self.told(drawn, W, classes)
                self.tells(True, is_web, told)
                self.assertEqual(told[0], len(classes))
                for j, k in itertools.product(range(len(classes)), repeat=2):
                    due = any((a, b) in W[1] for a in classes[j] for b in classes[k])
                    self.assertEqual((j, k) in told[1], due)
                self.same(leading, tuple([k for k, row in enumerate(classes) if a in row][0] for a in range(W[0])))
                self.assertTrue(is_leading(W, told, leading) and is_onto(told, leading))

    def test_rounds_drawn_together(self):
        classes = tuple((k, k + 12) for k in range(12))
        self.tells((round_web(12), tuple(k % 12 for k in range(24))), drawn, round_web(24), classes)


class TakenApart(Promise):
    def test_by_hand(self):
        self.tells((web(0), (), ()), taken_apart, web(0), ())
        self.tells((web(2, (0, 1), (1, 0)), (0, 1, 0), (6, 2)), taken_apart, web(3, (0, 1), (1, 2)), (6, 2, 6))

    def test_leadings(self):
        for W in some_webs(41, 10, 4):
            for V in some_webs(42, 10, 3):
                for f in all_led(W, V)[:8]:
                    told = self.told(taken_apart, W, f)
                    self.assertEqual(type(told), tuple)
                    middle, onto, rest = told
                    self.same((middle, onto), drawn(W, classes_of(f)))
                    self.same(behind(onto, rest), f)
                    self.assertTrue(is_one_to_one(rest))
                    self.assertTrue(is_leading(middle, V, rest))

    def test_tuples_that_are_no_leadings(self):
        chance = random.Random(43)
        for _ in range(40):
            n = chance.randrange(25)
            W = web(n, *((a, a) for a in range(n)))
            f = tuple(chance.randrange(30) for _ in range(n))
            middle, onto, rest = self.told(taken_apart, W, f)
            self.assertTrue(is_leading(W, middle, onto) and is_onto(middle, onto) and is_one_to_one(rest))
            self.same(behind(onto, rest), f)


if __name__ == "__main__":
    unittest.main()
