"""Point [43]: count papers told."""

import itertools
import random
import unittest

from helper import Promise, all_led, all_webs, count_due, some_lists, some_web, some_webs, web
from webintoweb.countchecker import counted_by
from webintoweb.counting import count
from webintoweb.countpapers import count_paper
from webintoweb.families import all_web, line_web, round_web, way_web
from webintoweb.leadings import full_lists
from webintoweb.powers import power
from webintoweb.together import paired, side

VOID = web(0)


class CountPapers(Promise):
    def asked(self, W, V, lists):
        paper = self.told(count_paper, W, V, lists)
        shown = self.told(counted_by, W, V, lists, paper)
        self.assertEqual(shown, count(W, V, lists))
        return shown

    def through(self, W, V, lists):
        shown = self.asked(W, V, lists)
        self.assertEqual(shown, len(all_led(W, V, lists)))
        self.assertEqual(shown, count_due(W, V, lists, count_paper(W, V, lists)))

    def test_without_places(self):
        for V in (VOID, web(1), all_web(3)):
            self.assertEqual(self.asked(VOID, V, ()), 1)
        self.assertEqual(self.asked(web(2), VOID, ((), ())), 0)
        self.assertEqual(self.asked(round_web(3), VOID, ((),) * 3), 0)

    def test_void_lists(self):
        for lists in [((), (0, 1)), ((0, 1), ()), ((), ())]:
            self.through(web(2), all_web(2), lists)
            self.through(web(2, (0, 1)), all_web(2), lists)
        # The product is 0, though that of all lists but one is very great.
        full = full_lists(web(23), web(24))
        self.assertEqual(self.asked(web(24), web(24), full + ((),)), 0)
        self.assertEqual(self.asked(round_web(24), all_web(24), ((),) + full), 0)
        self.assertEqual(self.asked(side(web(1), round_web(23)), all_web(24), ((),) + full), 0)

    def test_all_webs_of_two_places(self):
        for W, V in itertools.product(all_webs(0) + all_webs(1) + all_webs(2), repeat=2):
            self.through(W, V, full_lists(W, V))

    def test_lists_of_all_sorts(self):
        chance = random.Random(320)
        for W, V in zip(some_webs(321, 200, 5), some_webs(322, 200, 4)):
            self.through(W, V, some_lists(chance, W, V, chance.randrange(4, 11)))

    def test_loops(self):
        V = web(3, (0, 0), (0, 1), (1, 2), (2, 1), (2, 2))
        for W in (web(1, (0, 0)), web(2, (0, 0), (0, 1), (1, 0)), web(3, (0, 2), (2, 1), (2, 2))):
            self.through(W, V, full_lists(W, V))

    def test_seven_places_into_five(self):
        chance = random.Random(323)
        for thick in (1, 3, 6):
            W, V = some_web(chance, 7, thick), some_web(chance, 5, 7)
            self.through(W, V, some_lists(chance, W, V, 5))

    def test_up_to_twenty_thousand_tuples(self):
        # Fourteen places with two things each: no path is longer than that.
        mixed = web(2, (0, 0), (0, 1), (1, 0))
        for W in (round_web(14), way_web("><" * 6 + ">"), line_web(14), web(14), side(round_web(7), round_web(7))):
            for V in (all_web(2), mixed, line_web(2), web(2)):
                self.asked(W, V, full_lists(W, V))
        self.assertEqual(self.asked(round_web(9), all_web(3), ((0, 1, 2),) * 9), 2 ** 9 - 2)
        self.assertEqual(self.asked(all_web(5), all_web(7), full_lists(all_web(5), all_web(7))), 7 * 6 * 5 * 4 * 3)
        self.assertEqual(self.asked(web(2, (0, 1)), line_web(24), full_lists(web(2), line_web(24))), 24 * 23 // 2)

    def test_great_webs_that_were_told(self):
        pairs = paired(all_web(8), all_web(8))
        self.asked(pairs, web(1), full_lists(pairs, web(1)))
        self.asked(pairs, web(1, (0, 0)), full_lists(pairs, web(1)))
        lists = tuple((a // 8,) for a in range(64))
        self.assertEqual(self.asked(pairs, all_web(8), lists), 1)
        great = power(all_web(4), web(3, (0, 1), (1, 2)))
        self.asked(web(2, (0, 1), (1, 0)), great, full_lists(web(2), great))

    def test_few_calls_stand_within_one_another(self):
        W, V = round_web(14), web(2, (0, 0), (0, 1), (1, 0))
        self.shallow(count_paper, W, V, full_lists(W, V))


if __name__ == "__main__":
    unittest.main()
