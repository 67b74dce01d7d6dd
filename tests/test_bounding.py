"""Point [52]: least webs above, and greatest ones below."""

import itertools
import math
import unittest

from helper import Promise, all_led, all_webs, some_webs, web
from webintoweb.boundchecker import lets_above, lets_below
from webintoweb.bounding import above_told, below_told
from webintoweb.errors import TooMany
from webintoweb.families import all_web, line_web, round_web
from webintoweb.webs import is_web

VOID, ONE, LOOP = web(0), web(1), web(1, (0, 0))
SMALL = [VOID, ONE, LOOP] + all_webs(2)


class Above(Promise):
    def asked(self, webs):
        S, paper = self.told(above_told, webs)
        self.assertTrue(is_web(S))
        self.assertLessEqual(S[0], sum(own[0] for own in webs))
        self.assertIs(lets_above(webs, S, paper), True)
        return S

    def test_none_to_four(self):
        self.assertEqual(self.asked(()), VOID)
        for many in (1, 2):
            for webs in itertools.product(SMALL, repeat=many):
                self.asked(webs)
        for webs in zip(*[some_webs(380 + k, 40, 5) for k in range(4)]):
            self.asked(webs)
            self.asked(webs[:3])
        self.asked((all_web(5),) * 4)
        self.asked((round_web(5), VOID, LOOP, line_web(5)))

    def test_against_going_through(self):
        for webs in zip(some_webs(384, 30, 3), some_webs(385, 30, 3)):
            S = self.asked(webs)
            for T in SMALL:
                self.assertEqual(bool(all_led(S, T)), all(all_led(own, T) for own in webs))


class Below(Promise):
    def asked(self, webs):
        S, paper = self.told(below_told, webs)
        self.assertTrue(is_web(S))
        self.assertLessEqual(S[0], math.prod(own[0] for own in webs))
        self.assertIs(lets_below(webs, S, paper), True)
        return S

    def refused(self, webs):
        self.refuses(TooMany, ("places",), below_told, webs)

    def test_none_to_four(self):
        self.assertEqual(len(all_led(LOOP, self.asked(()))) > 0, True)
        for many in (1, 2):
            for webs in itertools.product(SMALL, repeat=many):
                self.asked(webs)
        for webs in zip(*[some_webs(390 + k, 40, 3) for k in range(4)]):
            if math.prod(own[0] for own in webs) <= 64:
                self.asked(webs)
            else:
                self.refused(webs)
            self.asked(webs[:3])

    def test_sixty_four_and_more(self):
        self.asked((all_web(4), round_web(4), line_web(4)))
        self.asked((all_web(4), round_web(4), web(2), web(2, (0, 1))))
        self.asked((all_web(5), round_web(4), line_web(3)))
        self.refused((all_web(5), round_web(5), line_web(3)))
        self.refused((web(5), web(5), web(3)))
        self.refused((web(5), web(5), web(5), web(5)))
        self.refused((web(1), web(5), web(5), web(3)))
        self.asked((web(5), web(5), web(1), web(2)))
        # Sixty-five: none of five at most, but of told ones.
        self.refused((all_web(5), all_web(13)))
        self.asked((all_web(5), VOID, all_web(5), all_web(5)))
        self.asked((all_web(5), all_web(5), all_web(5), VOID))

    def test_against_going_through(self):
        for webs in zip(some_webs(394, 30, 3), some_webs(395, 30, 3)):
            S = self.asked(webs)
            for T in SMALL:
                self.assertEqual(bool(all_led(T, S)), all(all_led(T, own) for own in webs))


if __name__ == "__main__":
    unittest.main()
