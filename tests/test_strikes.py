"""Points [25] and [26]: strikes."""

import random
import unittest

from helper import Promise, all_led, all_strikes, all_webs, some_lists, some_webs, strike_goes, web
from webintoweb.families import all_web, line_web, round_web
from webintoweb.leadings import are_lists, full_lists
from webintoweb.strikes import goes, struck

LOOP = web(1, (0, 0))


class Goes(Promise):
    def test_out(self):
        W, V = web(2, (0, 1)), web(3, (0, 1), (1, 2))
        lists = ((0, 1, 2), (0, 1, 2))
        self.tells(False, goes, W, V, lists, (0, 0, 1, "out"))
        self.tells(False, goes, W, V, lists, (0, 1, 1, "out"))
        self.tells(True, goes, W, V, lists, (0, 2, 1, "out"))
        self.tells(True, goes, W, V, ((0, 1), (0, 2)), (0, 0, 1, "out"))
        self.tells(True, goes, W, V, ((0, 1), ()), (0, 0, 1, "out"))

    def test_in(self):
        W, V = web(2, (0, 1)), web(3, (0, 1), (1, 2))
        lists = ((0, 1, 2), (0, 1, 2))
        self.tells(True, goes, W, V, lists, (1, 0, 0, "in"))
        self.tells(False, goes, W, V, lists, (1, 1, 0, "in"))
        self.tells(True, goes, W, V, ((1, 2), (0, 1)), (1, 1, 0, "in"))
        self.tells(True, goes, W, V, ((), (0, 1)), (1, 1, 0, "in"))

    def test_without_a_tie_that_way_none_goes(self):
        W, V = web(2, (0, 1)), web(2)
        lists = ((0, 1), (0, 1))
        for strike in all_strikes(W, V):
            due = (strike[0], strike[2], strike[3]) in ((0, 1, "out"), (1, 0, "in"))
            self.tells(due, goes, W, V, lists, strike)

    def test_x_stands_in_the_list(self):
        self.tells(True, goes, web(2, (0, 1)), web(2), ((1,), (0, 1)), (0, 1, 1, "out"))
        self.tells(False, goes, web(2, (0, 1)), web(2), ((1,), (0, 1)), (0, 0, 1, "out"))
        self.tells(False, goes, web(2, (0, 1)), web(2), ((), ()), (0, 0, 1, "out"))
        self.tells(False, goes, web(2, (0, 1)), web(2), ((0,), ()), (1, 0, 0, "in"))

    def test_b_the_same_place_as_a(self):
        V = web(3, (0, 0), (1, 2))
        for way, due in [("out", [False, False, True]), ("in", [False, True, False])]:
            for x in range(3):
                self.tells(due[x], goes, LOOP, V, ((0, 1, 2),), (0, x, 0, way))
        # The list is as it is, x in it: its own loop is a tie to go to.
        self.tells(False, goes, LOOP, V, ((0,),), (0, 0, 0, "out"))
        self.tells(True, goes, LOOP, V, ((0, 1),), (0, 1, 0, "out"))
        self.tells(True, goes, LOOP, V, ((0, 2),), (0, 2, 0, "in"))
        self.tells(False, goes, web(1), V, ((0, 2),), (0, 2, 0, "in"))
        self.tells(False, goes, web(1), V, ((0, 2),), (0, 2, 0, "out"))

    def test_against_the_words(self):
        chance = random.Random(70)
        webs = all_webs(2) + some_webs(71, 30, 4)
        for _ in range(150):
            W, V = chance.choice(webs), chance.choice(webs)
            lists = some_lists(chance, W, V, chance.randrange(3, 10))
            for strike in all_strikes(W, V):
                self.tells(strike_goes(W, V, lists, strike), goes, W, V, lists, strike)

    def test_where_a_strike_goes_none_leads_there(self):
        chance = random.Random(72)
        for W, V in zip(some_webs(73, 60, 4), some_webs(74, 60, 3)):
            lists = some_lists(chance, W, V)
            found = all_led(W, V, lists)
            for strike in all_strikes(W, V):
                if goes(W, V, lists, strike):
                    self.assertFalse([f for f in found if f[strike[0]] == strike[1]])
                    self.assertEqual(all_led(W, V, struck(lists, strike)), found)

    def test_sixteen_places(self):
        W, V = line_web(16), line_web(16)
        lists = full_lists(W, V)
        for x in range(16):
            self.tells(x == 15, goes, W, V, lists, (0, x, 15, "out"))
            self.tells(x == 0, goes, W, V, lists, (15, x, 0, "in"))
        self.tells(False, goes, all_web(16), round_web(16), lists, (3, 3, 4, "out"))


class Struck(Promise):
    def test_by_hand(self):
        lists = ((0, 1, 2), (1,), ())
        self.tells(((0, 2), (1,), ()), struck, lists, (0, 1, 2, "out"))
        self.tells(((1, 2), (1,), ()), struck, lists, (0, 0, 0, "in"))
        self.tells(((0, 1, 2), (), ()), struck, lists, (1, 1, 0, "in"))

    def test_every_strike_that_goes(self):
        chance = random.Random(75)
        for W, V in zip(some_webs(76, 60, 4), some_webs(77, 60, 4)):
            lists = some_lists(chance, W, V)
            for strike in all_strikes(W, V):
                if goes(W, V, lists, strike):
                    told = self.told(struck, lists, strike)
                    self.tells(True, are_lists, W, V, told)
                    for a in range(W[0]):
                        due = set(lists[a]) - ({strike[1]} if a == strike[0] else set())
                        self.assertEqual(set(told[a]), due)


if __name__ == "__main__":
    unittest.main()
