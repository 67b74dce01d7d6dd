"""Points [75] to [78], and [5]: hues told, ties taken out, places drawn together, hue trees and polys."""

import itertools
import random
import unittest

from helper import EIGHT, Promise, all_led, all_webs, least_hues, some_tied, some_webs, web
from webintoweb.families import all_web, line_web, round_web, way_web
from webintoweb.huechecker import lets_hues, shown_by
from webintoweb.hues import hue_poly, hue_tree, hues_told, merged, taken_out, value_at
from webintoweb.webs import backwards, is_web, renamed

VOID, ONE, LOOP = web(0), web(1), web(1, (0, 0))
TIE, R2, R3 = web(2, (0, 1)), round_web(2), round_web(3)


def twos(own):
    return {tuple(sorted(tie)) for tie in own[1] if tie[0] != tie[1]}


class Told(Promise):
    def asked(self, own):
        told = self.told(hues_told, own)
        least = least_hues(own)
        self.tells(True, lets_hues, own, told)
        if least is None:
            self.assertEqual(told[0], "loop")
            self.assertIn((told[1], told[1]), own[1])
        else:
            self.assertEqual(told[:2], ("hues", least))
        return least

    def test_by_hand(self):
        self.tells(("hues", 0, (), None), hues_told, VOID)
        self.assertEqual(self.asked(ONE), 1)
        self.tells(("loop", 0), hues_told, LOOP)
        self.assertEqual(self.asked(web(6)), 1)
        self.assertEqual(self.asked(R3), 3)
        self.assertEqual(self.asked(round_web(5)), 3)
        self.assertEqual(self.asked(round_web(6)), 2)
        self.assertEqual(self.asked(line_web(5)), 5)
        self.assertEqual(self.asked(all_web(6)), 6)
        self.assertIsNone(self.asked(web(6, (0, 1), (5, 5))))

    def test_small_webs(self):
        for own in all_webs(0) + all_webs(1) + all_webs(2) + all_webs(3)[::2]:
            self.asked(own)

    def test_six_places(self):
        chance = random.Random(730)
        found = [self.asked(some_tied(chance, chance.randrange(4, 7), most)) for most in range(2, 12) for _ in range(4)]
        self.assertTrue({2, 3, 4} <= set(found))
        for own in some_webs(731, 30, 5):
            self.asked(own)
        self.assertEqual(self.asked(EIGHT), 3)


class Ties(Promise):
    def asked(self, own, a, b):
        apart = tuple(tie for tie in own[1] if tie not in [(a, b), (b, a)])
        self.tells((own[0], apart), taken_out, own, a, b)
        low, high = sorted((a, b))

        def name(c):
            return low if c == high else c - 1 if c > high else c

        one = (own[0] - 1, tuple(sorted({(name(c), name(d)) for c, d in apart})))
        self.tells(one, merged, own, a, b)
        self.assertTrue(is_web(one))
        # Leadings without the ties are those with them, and those of both drawn together.
        for k in range(4):
            free, tied = all_led((own[0], apart), all_web(k)), all_led(own, all_web(k))
            if (a, b) in own[1] or (b, a) in own[1]:
                self.assertEqual(len(free), len(tied) + len(all_led(one, all_web(k))))
            else:
                self.assertEqual(free, tied)

    def test_by_hand(self):
        self.tells(web(2), taken_out, R2, 0, 1)
        self.tells(web(2), taken_out, R2, 1, 0)
        self.tells(web(2), taken_out, TIE, 0, 1)
        self.tells(web(2), taken_out, TIE, 1, 0)
        self.tells(web(2), taken_out, web(2), 0, 1)
        self.tells(web(2, (0, 0), (1, 1)), taken_out, web(2, (0, 0), (0, 1), (1, 1)), 0, 1)
        self.tells(ONE, merged, R2, 0, 1)
        self.tells(LOOP, merged, web(2, (0, 1), (1, 1)), 0, 1)
        self.tells(web(2, (0, 1), (1, 0)), merged, R3, 0, 1)
        self.tells(web(2, (0, 1), (1, 0)), merged, R3, 1, 2)
        self.tells(web(2, (0, 1), (1, 0)), merged, R3, 0, 2)
        self.tells(web(3, (0, 1), (1, 2)), merged, way_web(">>>"), 1, 2)
        self.tells(web(3, (0, 1), (0, 2), (1, 0)), merged, way_web(">>>"), 0, 2)
        self.tells(web(3, (0, 1), (1, 2)), merged, web(4, (0, 2), (2, 3)), 0, 1)

    def test_both_ways_about_and_where_there_is_no_tie(self):
        for own in all_webs(2) + some_webs(732, 60, 4):
            for a, b in itertools.permutations(range(own[0]), 2):
                self.asked(own, a, b)

    def test_eight_places(self):
        for own in (all_web(8), round_web(8)):
            for a, b in [(0, 1), (0, 7), (3, 5), (6, 7), (7, 2)]:
                gone = {(a, b), (b, a)} & set(own[1])
                self.assertEqual(set(own[1]) - set(self.told(taken_out, own, a, b)[1]), gone)
                self.assertEqual(self.told(merged, own, a, b)[0], 7)
        self.tells(all_web(7), merged, all_web(8), 2, 5)


class Polys(Promise):
    def asked(self, own):
        tree = self.told(hue_tree, own)
        poly = self.told(hue_poly, own)
        self.tells(poly, shown_by, own, tree)
        self.assertTrue(isinstance(poly, tuple) and (poly == () or poly[-1] != 0))
        for k in range(5 if own[0] < 6 else 4):
            self.tells(len(all_led(own, all_web(k))), value_at, poly, k)
        # So the least count of hues is the least k at which it isn't 0.
        least = next((k for k in range(own[0] + 1) if value_at(poly, k)), None)
        told = hues_told(own)
        self.assertEqual(least, told[1] if told[0] == "hues" else None)
        return poly

    def test_by_hand(self):
        self.tells((1,), hue_poly, VOID)
        self.tells((0, 1), hue_poly, ONE)
        self.tells((0, 0, 0, 0, 1), hue_poly, web(4))
        self.tells((), hue_poly, LOOP)
        self.tells((), hue_poly, web(3, (0, 1), (2, 2)))
        self.tells((0, -1, 1), hue_poly, TIE)
        self.tells((0, -1, 1), hue_poly, R2)
        self.tells((0, 2, -3, 1), hue_poly, R3)
        self.tells((0, -3, 6, -4, 1), hue_poly, round_web(4))
        self.tells((0, -120, 274, -225, 85, -15, 1), hue_poly, all_web(6))
        self.tells(("free",), hue_tree, VOID)
        self.tells(("free",), hue_tree, web(3))
        self.tells(("loop",), hue_tree, LOOP)
        self.tells(("tie", 0, 1, ("free",), ("free",)), hue_tree, TIE)
        self.tells(("tie", 0, 1, ("free",), ("free",)), hue_tree, web(2, (1, 0)))

    def test_small_webs(self):
        for own in all_webs(0) + all_webs(1) + all_webs(2) + all_webs(3):
            self.asked(own)

    def test_six_places_and_eight_twos(self):
        chance = random.Random(733)
        self.assertEqual(len(twos(EIGHT)), 8)
        self.asked(EIGHT)
        for most in range(9):
            self.asked(some_tied(chance, chance.randrange(4, 7), most))
        for own in some_webs(734, 40, 4):
            self.asked(own)

    def test_whichever_way_ties_go_and_whatever_names(self):
        chance = random.Random(735)
        for most in range(3, 9):
            own = some_tied(chance, 6, most)
            poly = self.asked(own)
            self.assertEqual(hue_poly(backwards(own)), poly)
            self.assertEqual(hue_poly(renamed(own, tuple(chance.sample(range(6), 6)))), poly)
            self.assertEqual(hue_poly((6, tuple(sorted({*own[1], *backwards(own)[1]})))), poly)

    def test_values(self):
        self.tells(0, value_at, (), 0)
        self.tells(0, value_at, (), 10 ** 199)
        self.tells(0, value_at, (), -3)
        self.tells(1, value_at, (1,), 0)
        self.tells(7, value_at, (7, 5, 3), 0)
        self.tells(15, value_at, (7, 5, 3), 1)
        self.tells(5, value_at, (7, 5, 3), -1)
        self.tells(0, value_at, (0, 0, 0, 1), 0)
        self.tells(-8, value_at, (0, 0, 0, 1), -2)
        great = 10 ** 199 + 7
        self.tells(2 * great - 3 * great ** 2 + great ** 3, value_at, (0, 2, -3, 1), great)
        self.tells(-2 * great - 3 * great ** 2 - great ** 3, value_at, (0, 2, -3, 1), -great)
        chance = random.Random(736)
        for _ in range(40):
            poly = tuple(chance.randrange(-9, 10) for _ in range(chance.randrange(7))) + (chance.choice([-2, 1]),)
            for k in (-5, -1, 0, 1, 2, 12):
                self.tells(sum(number * k ** at for at, number in enumerate(poly)), value_at, poly, k)
        # At -1 it counts, but for the sign, the ways in which ties can be turned so that none come round.
        self.tells(-6, value_at, hue_poly(R3), -1)

    def test_few_calls_stand_within_one_another(self):
        self.assertEqual(len(self.shallow(hue_poly, all_web(6))), 7)
        self.assertEqual(self.shallow(hues_told, all_web(6))[:2], ("hues", 6))


if __name__ == "__main__":
    unittest.main()
