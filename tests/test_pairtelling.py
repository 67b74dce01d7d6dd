"""Point [63]: the closed table, or a pair paper."""

import itertools
import random
import unittest

from helper import Promise, all_led, all_webs, closed_pairs, some_lists, some_web, some_webs, web
from webintoweb.families import all_web, line_web, round_web, way_web
from webintoweb.leadings import full_lists
from webintoweb.pairchecker import lets_pairs
from webintoweb.pairclosing import closed_table
from webintoweb.pairtelling import pairs_told

VOID, ONE, LOOP = web(0), web(1), web(1, (0, 0))
TIE, R2, R3 = web(2, (0, 1)), round_web(2), round_web(3)


class Pairs(Promise):
    def asked(self, one, other, lists):
        """The closed table just where a pair stands everywhere in it, else a paper that is let by."""
        table = closed_pairs(one, other, lists)
        told = self.told(pairs_told, one, other, lists)
        if all(pairs for row in table for pairs in row):
            self.same(told, ("table", table))
            self.same(told[1], closed_table(one, other, lists))
            for f in all_led(one, other, lists):
                self.assertTrue(all((f[a], f[b]) in table[a][b] for a in range(one[0]) for b in range(one[0])))
        else:
            self.assertEqual((type(told), len(told), told[0]), (tuple, 2, "none"))
            self.tells(True, lets_pairs, one, other, lists, told[1])
            self.assertEqual(all_led(one, other, lists), [])
        return told[0]

    def test_without_places(self):
        for other in (VOID, ONE, LOOP, R3):
            self.tells(("table", ()), pairs_told, VOID, other, ())
        for one in (ONE, LOOP, R3):
            self.assertEqual(self.asked(one, VOID, ((),) * one[0]), "none")

    def test_by_hand(self):
        self.tells(("table", ((((0, 0), (1, 1)),),)), pairs_told, ONE, web(2), ((0, 1),))
        self.tells(("table", ((((1, 1),),),)), pairs_told, LOOP, web(2, (1, 1)), ((0, 1),))
        # Closed lists bar nothing here, closed pairs do.
        self.assertEqual(self.asked(R3, all_web(2), ((0, 1),) * 3), "none")
        self.assertEqual(self.asked(round_web(5), all_web(2), ((0, 1),) * 5), "none")
        self.assertEqual(self.asked(way_web("><>"), all_web(2), ((0, 1),) * 4), "table")
        self.assertEqual(self.asked(TIE, LOOP, ((0,), (0,))), "table")
        # Pairs are left everywhere though there is no leading: they alone are not enough.
        self.assertEqual(self.asked(all_web(4), all_web(3), ((0, 1, 2),) * 4), "table")
        self.assertEqual(all_led(all_web(4), all_web(3)), [])

    def test_void_lists_and_lists_of_one(self):
        for one, other in itertools.product([ONE, LOOP, TIE, R2, R3], repeat=2):
            for a in range(one[0]):
                lists = full_lists(one, other)
                self.assertEqual(self.asked(one, other, lists[:a] + ((),) + lists[a + 1:]), "none")
            for f in itertools.product(range(other[0]), repeat=one[0]):
                word = self.asked(one, other, tuple((x,) for x in f))
                self.assertEqual(word == "table", f in all_led(one, other))

    def test_all_webs_of_two_places(self):
        for one, other in itertools.product([VOID, ONE, LOOP] + all_webs(2), repeat=2):
            self.asked(one, other, full_lists(one, other))

    def test_lists_of_all_sorts(self):
        chance = random.Random(600)
        words = [self.asked(one, other, some_lists(chance, one, other, chance.randrange(6, 11)))
                 for one, other in zip(some_webs(601, 150, 4), some_webs(602, 150, 4))]
        self.assertTrue(words.count("table") > 40 and words.count("none") > 40)

    def test_five_places_into_four(self):
        chance = random.Random(603)
        words = []
        for thick, thin in itertools.product((3, 4, 5), repeat=2):
            one, other = some_web(chance, 5, thick), some_web(chance, 4, thin)
            words.append(self.asked(one, other, full_lists(one, other)))
        self.assertTrue("table" in words and "none" in words)
        self.asked(all_web(5), all_web(4), full_lists(all_web(5), all_web(4)))
        self.asked(line_web(5), line_web(4), full_lists(line_web(5), line_web(4)))


if __name__ == "__main__":
    unittest.main()
