"""Point [50]: alike papers told."""

import itertools
import unittest

from helper import Promise, all_led, all_webs, some_webs, web
from webintoweb.alikechecker import lets_alike
from webintoweb.aliking import alike_told
from webintoweb.families import all_web, line_web, round_web, way_web
from webintoweb.together import paired, side

VOID, ONE, LOOP = web(0), web(1), web(1, (0, 0))


class Told(Promise):
    def asked(self, W, V):
        paper = self.told(alike_told, W, V)
        self.assertIs(lets_alike(W, V, paper), True)
        self.assertEqual(paper[0], "alike" if all_led(W, V) and all_led(V, W) else "not")
        return paper[0]

    def test_all_webs_of_two_places(self):
        for W, V in itertools.product([VOID, ONE, LOOP] + all_webs(2), repeat=2):
            self.asked(W, V)

    def test_webs_of_all_sorts(self):
        words = [self.asked(W, V) for W, V in zip(some_webs(360, 150, 5), some_webs(361, 150, 5))]
        self.assertGreater(words.count("alike"), 20)
        self.assertGreater(words.count("not"), 20)

    def test_by_hand(self):
        for W, V, word in [
            (round_web(3), round_web(2), "not"), (round_web(4), round_web(2), "not"), (way_web("><>"), line_web(2), "alike"),
            (all_web(3), round_web(3), "not"), (VOID, VOID, "alike"), (ONE, VOID, "not"), (VOID, ONE, "not"),
            (LOOP, all_web(3), "not"), (LOOP, web(3, (0, 1), (1, 1)), "alike"), (ONE, web(5), "alike"),
            (line_web(5), line_web(4), "not"), (round_web(5), all_web(3), "not"),
        ]:
            self.assertEqual(self.asked(W, V), word)

    def test_of_one_and_itself_either_way_about_and_through_a_third(self):
        webs = [VOID, ONE, LOOP, round_web(2), round_web(3), way_web(">><"), line_web(3), web(3, (0, 1))] + some_webs(362, 6, 3)
        alike = {(j, k): self.asked(webs[j], webs[k]) == "alike" for j in range(len(webs)) for k in range(len(webs))}
        for j, k, m in itertools.product(range(len(webs)), repeat=3):
            self.assertTrue(alike[j, j])
            self.assertEqual(alike[j, k], alike[k, j])
            self.assertTrue(alike[j, m] or not (alike[j, k] and alike[k, m]))

    def test_told_webs(self):
        three = round_web(3)
        self.assertEqual(self.asked(three, side(three, three)), "alike")
        self.assertEqual(self.asked(three, paired(three, three)), "alike")
        self.assertEqual(self.asked(round_web(2), paired(three, round_web(2))), "not")


if __name__ == "__main__":
    unittest.main()
