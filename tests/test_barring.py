"""Points [71], [73], [74] and [5]: papers told of rounds, lines and all of two."""

import random
import unittest

from helper import Promise, all_led, all_webs, some_web, some_webs, web
from webintoweb.barring import line_told, round_told, two_told
from webintoweb.families import all_web, line_web, round_web, way_web
from webintoweb.walkchecker import lets_line, lets_round, lets_two
from webintoweb.walks import levels, longest
from webintoweb.webs import backwards, renamed

VOID, ONE, LOOP = web(0), web(1), web(1, (0, 0))


class Told(Promise):
    def at_round(self, own, k, is_led):
        paper = self.told(round_told, own, k)
        self.assertEqual(paper[0], "leading" if is_led else "walk")
        self.tells(True, lets_round, own, k, paper)

    def at_line(self, own, k, is_led):
        paper = self.told(line_told, own, k)
        self.assertEqual(paper[0], "leading" if is_led else "walk")
        self.tells(True, lets_line, own, k, paper)

    def at_two(self, own, is_led):
        paper = self.told(two_told, own)
        self.assertEqual(paper[0], "leading" if is_led else "walk")
        self.tells(True, lets_two, own, paper)

    def against_going_through(self, own, most):
        for k in range(1, most):
            self.at_round(own, k, bool(all_led(own, round_web(k))))
        for k in range(most):
            self.at_line(own, k, bool(all_led(own, line_web(k))))
        self.at_two(own, bool(all_led(own, all_web(2))))

    def by_levels(self, own):
        period, long = levels(own)[0], longest(own)
        for k in range(1, 13):
            self.at_round(own, k, period % k == 0)
        for k in range(13):
            self.at_line(own, k, long is not None and long < k)
        self.at_two(own, period % 2 == 0)

    def test_webs_without_places_of_one_place_and_with_loops(self):
        for own in (VOID, ONE, LOOP, web(3, (1, 1)), web(3, (0, 1), (2, 2)), web(8)):
            self.by_levels(own)
        self.tells(("leading", ()), round_told, VOID, 1)
        self.tells(("leading", ()), line_told, VOID, 0)
        self.tells(("leading", ()), two_told, VOID)
        self.tells(("walk", (0,)), line_told, ONE, 0)
        self.tells(("leading", (0,)), line_told, ONE, 1)
        self.tells(("walk", (0,) * 13), line_told, LOOP, 12)

    def test_small_webs_against_going_through(self):
        for own in all_webs(0) + all_webs(1) + all_webs(2):
            self.against_going_through(own, 6)
        for own in all_webs(3)[::3]:
            self.against_going_through(own, 5)
        for own in some_webs(720, 40, 4):
            self.against_going_through(own, 6)

    def test_rounds_lines_and_ways(self):
        for k in range(1, 9):
            for own in (round_web(k), backwards(round_web(k)), line_web(k), way_web("><<>><<"[:k - 1]), all_web(k)):
                self.by_levels(own)

    def test_eight_places(self):
        chance = random.Random(721)
        for _ in range(40):
            self.by_levels(some_web(chance, chance.randrange(5, 9), 1))
            names = tuple(chance.sample(range(8), 8))
            # A row of all places, walked from far ends, and one tie more.
            ties = [(a, a + 1) if chance.randrange(2) else (a + 1, a) for a in range(7)]
            more = (chance.randrange(8), chance.randrange(8))
            self.by_levels(renamed(web(8, *sorted({*ties, more})), names))


if __name__ == "__main__":
    unittest.main()
