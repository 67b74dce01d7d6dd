"""Points [70], [72] and [73]: walks, the period and levels, and the longest walk along ties."""

import itertools
import math
import random
import unittest

from helper import (
    JUNK, Promise, all_led, all_webs, is_walk_kind, nested, otherwise, some_walk, some_web, some_webs, spoiled,
    walks_by_ties, web,
)
from webintoweb.families import all_web, line_web, round_web, way_web
from webintoweb.walks import is_closed, is_walk, levels, long_of, longest, net_of
from webintoweb.webs import backwards, pieces, renamed

VOID, ONE, LOOP = web(0), web(1), web(1, (0, 0))
TIE, R2, R3 = web(2, (0, 1)), round_web(2), round_web(3)


class Walk(Promise):
    def test_by_hand(self):
        for walk in [((0,), ""), ((1,), ""), ((0, 1), "+"), ((1, 0), "-"), ((0, 1, 0, 1), "+-+")]:
            self.tells(True, is_walk, TIE, walk)
        for walk in [((0, 1), "-"), ((1, 0), "+"), ((0, 0), "+"), ((0, 1, 0), "++"), ((0, 1, 1), "+-"), ((2,), "")]:
            self.tells(False, is_walk, TIE, walk)
        self.tells(True, is_walk, LOOP, ((0, 0, 0), "+-"))
        # Any other sign is none, whichever way ties go.
        for sign in "* x_~/0<>":
            self.tells(False, is_walk, LOOP, ((0, 0), sign))
            self.tells(False, is_walk, R2, ((0, 1, 0), "+" + sign))
        self.tells(False, is_walk, ONE, ((0, 0), "+"))
        self.tells(False, is_walk, VOID, ((), ""))
        self.tells(False, is_walk, VOID, ((0,), ""))

    def test_two_hundred_places(self):
        for own, places in [(LOOP, (0,) * 201), (R2, (0, 1) * 101)]:
            for many in (199, 200):
                self.tells(True, is_walk, own, (places[:many], "+" * (many - 1)))
                self.tells(False, is_walk, own, (places[:many], "+" * many))
                self.tells(False, is_walk, own, (places[:many], "+" * (many - 2)))
            self.tells(False, is_walk, own, (places[:201], "+" * 200))
            self.tells(False, is_walk, own, (places[:201], "+" * 199))

    def test_things_of_other_kinds(self):
        for own in (VOID, ONE, LOOP, TIE, R3):
            for thing in JUNK:
                self.tells(False, is_walk, own, thing)
        right = ((0, 1, 2, 1), "++-")
        self.tells(True, is_walk, R3, right)
        for thing in spoiled(right) + [
            (), ((), ""), ((),), right + ("",), list(right), ([0, 1], "+"), ((0, 1), ("+",)), ((0, 1), ["+"]), ((0, 1), None),
            ((0, 1), 1), ((0, 1), True), ((0, True), "+"), ((False, 1), "+"), ((0, 1), " "), ((0, 1), ""), ((0, 1), "++"),
            ((0, 1), "*"), ((0, 1, 2), "+ "), ((0, 3), "+"), ((-1, 0), "+"), (("0",), ""), ((None,), ""), (((0,),), ""),
            ("0", ""), (0, ""), ((0,), ()), ((0,), None), ("+", (0, 1)), ((10 ** 199,), ""), nested(99, tuple), ("", ""),
        ]:
            self.tells(False, is_walk, R3, thing)

    def test_one_place_or_one_sign_otherwise(self):
        chance = random.Random(700)
        told = []
        for own in some_webs(701, 60, 5):
            if own[0]:
                places, signs = walk = some_walk(chance, own, chance.randrange(9))
                self.tells(True, is_walk, own, walk)
                for k in range(len(places)):
                    for place in range(-1, own[0] + 1):
                        thing = (places[:k] + (place,) + places[k + 1:], signs)
                        told.append(is_walk_kind(own, thing) and walks_by_ties(own, thing))
                        self.tells(told[-1], is_walk, own, thing)
                for k in range(len(signs)):
                    thing = (places, signs[:k] + ("-" if signs[k] == "+" else "+") + signs[k + 1:])
                    told.append(walks_by_ties(own, thing))
                    self.tells(told[-1], is_walk, own, thing)
                for _ in range(5):
                    thing = otherwise(chance, walk)
                    self.tells(is_walk_kind(own, thing) and walks_by_ties(own, thing), is_walk, own, thing)
        self.assertTrue(told.count(True) > 100 and told.count(False) > 100)

    def test_net_long_and_closed(self):
        self.tells(0, net_of, ((3,), ""))
        self.tells(0, long_of, ((3,), ""))
        self.tells(True, is_closed, ((3,), ""))
        self.tells(1, net_of, ((0, 1, 2, 3), "+-+"))
        self.tells(-3, net_of, ((0, 1, 2, 0), "---"))
        self.tells(3, long_of, ((0, 1, 2, 0), "---"))
        self.tells(True, is_closed, ((0, 1, 2, 0), "---"))
        self.tells(False, is_closed, ((0, 1, 2, 1), "--+"))
        self.tells(199, net_of, ((0,) * 200, "+" * 199))
        chance = random.Random(702)
        for own in some_webs(703, 60, 6):
            if own[0]:
                walk = some_walk(chance, own, chance.randrange(30))
                self.tells(sum({"+": 1, "-": -1}[sign] for sign in walk[1]), net_of, walk)
                self.tells(len(walk[0]) - 1, long_of, walk)
                self.tells(walk[0][0] == walk[0][len(walk[0]) - 1], is_closed, walk)


def period_of(own):
    """The greatest common divisor of the nets of closed walks, by going round: no piece needs longer ones."""
    found = 0
    for first in range(own[0]):
        ends = {(first, 0)}
        for _ in range(2 * own[0] + 1):
            ends |= {(q, net + 1) for p, net in ends for c, q in own[1] if c == p}
            ends |= {(q, net - 1) for p, net in ends for q, c in own[1] if c == p}
            for place, net in ends:
                if place == first:
                    found = math.gcd(found, net)
    return found


class Levels(Promise):
    def asked(self, own):
        told = self.told(levels, own)
        period, at = told
        self.assertEqual((type(told), len(told), type(at), len(at)), (tuple, 2, tuple, own[0]))
        self.assertEqual({type(number) for number in (period, *at)}, {int})
        self.assertEqual(period, period_of(own))
        for places in pieces(own):
            self.assertEqual(at[places[0]], 0)
        for a, b in own[1]:
            off = at[a] + 1 - at[b]
            self.assertEqual(off % period if period else off, 0)
        if period:
            self.assertTrue(all(0 <= number < period for number in at))
        return period

    def test_by_hand(self):
        self.tells((0, ()), levels, VOID)
        self.tells((0, (0,)), levels, ONE)
        self.tells((1, (0,)), levels, LOOP)
        self.tells((0, (0, 1)), levels, TIE)
        self.tells((0, (0, -1)), levels, web(2, (1, 0)))
        self.tells((0, (0, 1, 0, -1)), levels, way_web("><<"))
        self.tells((2, (0, 1)), levels, R2)
        self.tells((3, (0, 1, 2)), levels, R3)
        self.tells((3, (0, 2, 1)), levels, backwards(R3))
        self.tells((1, (0, 0, 0)), levels, line_web(3))
        self.tells((1, (0, 0, 0)), levels, all_web(3))
        # Two rounds that hang on one another by nothing: the divisor of both, for both.
        self.tells((2, (0, 1, 0, 1, 0, 1, 0, 1)), levels,
                   web(8, (0, 1), (1, 0), (2, 3), (3, 4), (4, 5), (5, 6), (6, 7), (7, 2)))
        # A round of four, one tie of which is turned: what goes on and what goes back are told apart.
        self.tells((2, (0, 1, 0, 1)), levels, web(4, (0, 1), (0, 3), (1, 2), (2, 3)))
        # 0 at the least place, though all ties lead to it.
        self.tells((0, (0, -2, -1)), levels, web(3, (1, 2), (2, 0)))
        # Levels below nought come to be from 0 on.
        self.tells((3, (0, 2, 1)), levels, web(3, (0, 2), (1, 0), (2, 1)))

    def test_all_webs_of_three_places(self):
        for own in all_webs(0) + all_webs(1) + all_webs(2) + all_webs(3):
            self.asked(own)

    def test_eight_places(self):
        chance = random.Random(704)
        periods = []
        for k in range(1, 9):
            periods.append(self.asked(round_web(k)))
            self.assertEqual(periods[-1], k)
            periods.append(self.asked(renamed(round_web(k), tuple(chance.sample(range(k), k)))))
        for _ in range(150):
            own = some_web(chance, chance.randrange(4, 9), 1)
            periods.append(self.asked(own))
        self.assertTrue(periods.count(0) > 20 and periods.count(1) > 20)
        for k, many in [(2, 8), (3, 8), (4, 8), (3, 7), (5, 8)]:
            # Ties from level to level alone: the period is k or a multiple, or 0.
            for _ in range(8):
                at = [chance.randrange(k) for _ in range(many)]
                ties = [(a, b) for a in range(many) for b in range(many) if (at[a] + 1 - at[b]) % k == 0]
                self.assertEqual(self.asked(web(many, *[tie for tie in ties if chance.randrange(3)])) % k, 0)

    def test_it_says_into_which_rounds_a_web_is_led(self):
        for own in all_webs(2) + some_webs(705, 60, 4):
            period = levels(own)[0]
            for k in range(1, 6):
                self.assertEqual(bool(all_led(own, round_web(k))), period % k == 0)


def longest_of(own):
    """Of how many ties the longest walk along them is, by going them all, or None."""
    ends, long = {(a,) for a in range(own[0])}, -1
    while ends:
        long += 1
        if any(walk.count(walk[-1]) > 1 for walk in ends):
            return None
        ends = {walk + (b,) for walk in ends for a, b in own[1] if a == walk[-1]}
    return long


class Longest(Promise):
    def test_by_hand(self):
        self.tells(-1, longest, VOID)
        self.tells(0, longest, ONE)
        self.tells(0, longest, web(8))
        self.tells(None, longest, LOOP)
        self.tells(1, longest, TIE)
        self.tells(None, longest, R2)
        self.tells(None, longest, round_web(8))
        self.tells(7, longest, line_web(8))
        self.tells(7, longest, way_web(">" * 7))
        self.tells(7, longest, way_web("<" * 7))
        self.tells(1, longest, way_web("><><><>"))
        self.tells(3, longest, web(8, (0, 1), (2, 3), (3, 4), (4, 5)))
        self.tells(None, longest, web(8, (0, 1), (2, 3), (3, 4), (4, 5), (7, 7)))
        self.tells(None, longest, web(8, *[(a, a + 1) for a in range(7)], (7, 6)))

    def test_all_webs_of_three_places(self):
        told = []
        for own in all_webs(1) + all_webs(2) + all_webs(3):
            told.append(longest_of(own))
            self.tells(told[-1], longest, own)
        self.assertTrue(told.count(None) > 100 and told.count(2) > 10)

    def test_eight_places(self):
        chance = random.Random(706)
        for _ in range(120):
            n = chance.randrange(4, 9)
            names = chance.sample(range(n), n)
            ties = [(a, b) for a, b in itertools.product(range(n), repeat=2) if names[a] < names[b]]
            own = web(n, *[tie for tie in ties if chance.randrange(3) == 0])
            self.assertIsNotNone(longest_of(own))
            self.tells(longest_of(own), longest, own)
            own = some_web(chance, n, 1)
            self.tells(longest_of(own), longest, own)

    def test_it_says_into_which_lines_a_web_is_led(self):
        for own in all_webs(0) + all_webs(2) + some_webs(707, 60, 4):
            long = longest(own)
            for k in range(6):
                self.assertEqual(bool(all_led(own, line_web(k))), long is not None and long < k)


if __name__ == "__main__":
    unittest.main()
