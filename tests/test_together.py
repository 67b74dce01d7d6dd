"""Points [45] and [46]: webs side by side, and in pairs."""

import itertools
import random
import unittest

from helper import Promise, all_led, all_webs, leads, some_web, some_webs, web
from webintoweb.counting import count
from webintoweb.families import all_web, line_web, round_web
from webintoweb.leadings import behind, full_lists, is_leading
from webintoweb.together import (
    cut_paired, cut_side, into_paired, over_side, paired, paired_first, paired_last, side, side_first, side_last,
)
from webintoweb.webs import is_web

VOID, ONE, LOOP = web(0), web(1), web(1, (0, 0))
SMALL = [VOID, ONE, LOOP] + all_webs(2)
SOME = SMALL + [round_web(3), line_web(3), all_web(3), web(3, (0, 0), (0, 2), (2, 1))] + some_webs(330, 12, 6)


def counted(W, V):
    return count(W, V, full_lists(W, V))


class Side(Promise):
    def test_by_hand(self):
        self.tells(web(4, (0, 1), (2, 3), (3, 3)), side, web(2, (0, 1)), web(2, (0, 1), (1, 1)))
        self.tells(web(3, (0, 0), (2, 1)), side, LOOP, web(2, (1, 0)))
        self.tells(web(3, (1, 0), (2, 2)), side, web(2, (1, 0)), LOOP)
        self.tells((0,), side_first, LOOP, web(2, (1, 0)))
        self.tells((1, 2), side_last, LOOP, web(2, (1, 0)))

    def test_ties_one_by_one(self):
        for W, V in itertools.product(SOME, repeat=2):
            told = self.told(side, W, V)
            self.assertTrue(is_web(told))
            n = W[0]
            self.assertEqual(told[0], n + V[0])
            for a, b in itertools.product(range(told[0]), repeat=2):
                both_first, both_last = a < n and b < n, a >= n and b >= n
                due = both_first and (a, b) in W[1] or both_last and (a - n, b - n) in V[1]
                self.assertEqual((a, b) in told[1], due)

    def test_without_places(self):
        for W in SOME:
            self.tells(W, side, W, VOID)
            self.tells(W, side, VOID, W)
            self.tells((), side_first, VOID, W)
            self.tells((), side_last, W, VOID)

    def test_sixty_four_places(self):
        told = side(side(all_web(8), round_web(8)), side(line_web(24), line_web(24)))
        self.assertTrue(is_web(told))
        self.assertEqual(told[0], 64)

    def test_places_stay_themselves(self):
        for W, V in itertools.product(SOME, repeat=2):
            whole = side(W, V)
            first, last = self.told(side_first, W, V), self.told(side_last, W, V)
            self.same(first, tuple(range(W[0])))
            self.same(last, tuple(W[0] + b for b in range(V[0])))
            self.assertTrue(is_leading(W, whole, first))
            self.assertTrue(is_leading(V, whole, last))

    def test_over_and_cut_undo_one_another(self):
        for W, V in itertools.product(SMALL, repeat=2):
            for U in (VOID, LOOP, web(2, (0, 1), (1, 1)), all_web(3)):
                whole = side(W, V)
                pairs = []
                for f, g in itertools.product(all_led(W, U), all_led(V, U)):
                    told = self.told(over_side, f, g)
                    self.assertTrue(leads(whole, U, told))
                    self.tells((f, g), cut_side, W, told)
                    # The very one that is f and g where places stay themselves.
                    self.assertEqual(behind(side_first(W, V), told), f)
                    self.assertEqual(behind(side_last(W, V), told), g)
                    pairs.append(told)
                self.assertEqual(sorted(pairs), all_led(whole, U))
                for f in all_led(whole, U):
                    one, other = self.told(cut_side, W, f)
                    self.assertTrue(is_leading(W, U, one) and is_leading(V, U, other))
                    self.tells(f, over_side, one, other)

    def test_counts_multiply(self):
        chance = random.Random(331)
        for W, V in zip(some_webs(332, 40, 3), some_webs(333, 40, 3)):
            U = some_web(chance, chance.randrange(4), 5)
            self.assertEqual(counted(side(W, V), U), counted(W, U) * counted(V, U))

    def test_the_least_above_both(self):
        for W, V in zip(some_webs(334, 40, 3), some_webs(335, 40, 3)):
            for U in all_webs(2):
                self.assertEqual(counted(side(W, V), U) > 0, counted(W, U) > 0 and counted(V, U) > 0)


class Pairs(Promise):
    def test_by_hand(self):
        # (0, 0), (0, 1), (1, 0), (1, 1)
        self.tells(web(4, (0, 3)), paired, web(2, (0, 1)), web(2, (0, 1)))
        self.tells(web(4, (1, 2)), paired, web(2, (0, 1)), web(2, (1, 0)))
        self.tells(web(6, (0, 4), (1, 5), (2, 3)), paired, web(2, (0, 1)), round_web(3))
        self.tells((0, 0, 0, 1, 1, 1), paired_first, web(2), web(3))
        self.tells((0, 1, 2, 0, 1, 2), paired_last, web(2), web(3))
        self.tells((5, 1), into_paired, web(3), (1, 0), (2, 1))
        self.tells(((1, 0), (2, 1)), cut_paired, web(3), (5, 1))

    def test_ties_one_by_one(self):
        for W, V in itertools.product(SOME, repeat=2):
            told = self.told(paired, W, V)
            self.assertTrue(is_web(told))
            places = list(itertools.product(range(W[0]), range(V[0])))
            self.assertEqual(told[0], len(places))
            due = [(j, k) for j, (a, b) in enumerate(places) for k, (c, d) in enumerate(places)
                   if (a, c) in W[1] and (b, d) in V[1]]
            self.same(told[1], tuple(due))
            self.tells(tuple(a for a, b in places), paired_first, W, V)
            self.tells(tuple(b for a, b in places), paired_last, W, V)
            self.assertTrue(is_leading(told, W, paired_first(W, V)))
            self.assertTrue(is_leading(told, V, paired_last(W, V)))

    def test_without_places_and_with_a_loop(self):
        for W in SOME:
            self.tells(VOID, paired, W, VOID)
            self.tells(VOID, paired, VOID, W)
            self.tells((), paired_first, W, VOID)
            self.tells((), paired_last, VOID, W)
            self.tells(W, paired, W, LOOP)
            self.tells(W, paired, LOOP, W)
            self.tells((W[0], ()), paired, W, ONE)
        self.tells((), into_paired, VOID, (), ())
        self.tells(((), ()), cut_paired, VOID, ())

    def test_sixty_four_places(self):
        told = paired(all_web(8), round_web(8))
        self.assertTrue(is_web(told))
        self.assertEqual((told[0], len(told[1])), (64, 56 * 8))

    def test_into_and_cut_undo_one_another(self):
        for W, V in itertools.product(SMALL, repeat=2):
            for U in (VOID, LOOP, web(2, (0, 1)), web(3, (0, 1), (1, 2))):
                whole = paired(W, V)
                pairs = []
                for f, g in itertools.product(all_led(U, W), all_led(U, V)):
                    told = self.told(into_paired, V, f, g)
                    self.assertTrue(leads(U, whole, told))
                    self.tells((f, g), cut_paired, V, told)
                    self.assertEqual(behind(told, paired_first(W, V)), f)
                    self.assertEqual(behind(told, paired_last(W, V)), g)
                    pairs.append(told)
                self.assertEqual(sorted(pairs), all_led(U, whole))
                for f in all_led(U, whole):
                    one, other = self.told(cut_paired, V, f)
                    self.assertTrue(is_leading(U, W, one) and is_leading(U, V, other))
                    self.tells(f, into_paired, V, one, other)

    def test_counts_multiply(self):
        chance = random.Random(336)
        for W, V in zip(some_webs(337, 40, 3), some_webs(338, 40, 3)):
            U = some_web(chance, chance.randrange(5), 4)
            self.assertEqual(counted(U, paired(W, V)), counted(U, W) * counted(U, V))

    def test_the_greatest_below_both(self):
        for W, V in zip(some_webs(339, 40, 3), some_webs(340, 40, 3)):
            for U in all_webs(2):
                self.assertEqual(counted(U, paired(W, V)) > 0, counted(U, W) > 0 and counted(U, V) > 0)


if __name__ == "__main__":
    unittest.main()
