"""Points [69] and [5]: a bar, or the closed lists."""

import itertools
import random
import unittest

from helper import (
    Promise, all_led, all_webs, closed_lists, images_of, some_lists, some_web, some_webs, tree_led_on, web,
)
from webintoweb.barchecker import lets_bar
from webintoweb.bars import bar_told
from webintoweb.families import all_web, line_web, round_web, way_web
from webintoweb.finding import void_paper
from webintoweb.leadings import full_lists
from webintoweb.trees import images, is_tree

VOID, ONE, LOOP = web(0), web(1), web(1, (0, 0))
TIE, R2, R3 = web(2, (0, 1)), round_web(2), round_web(3)


class Told(Promise):
    def asked(self, one, other, lists):
        """A bar just where some closed list is void, else just the closed lists."""
        due = closed_lists(one, other, lists)
        told = self.told(bar_told, one, other, lists)
        self.assertEqual(void_paper(one, other, lists) is None, () not in due)
        if () in due:
            self.assertEqual((type(told), len(told), told[0]), (tuple, 2, "bar"))
            self.tells(True, lets_bar, one, other, lists, told[1])
            self.assertEqual(images_of(other, lists, told[1]), ())
            self.assertEqual(all_led(one, other, lists), [])
        else:
            self.same(told, ("lists", due))
        return told

    def test_without_places(self):
        for other in (VOID, ONE, LOOP, R3):
            self.tells(("lists", ()), bar_told, VOID, other, ())
        for one in (ONE, LOOP, R3):
            self.assertEqual(self.asked(one, VOID, ((),) * one[0])[0], "bar")

    def test_by_hand(self):
        self.tells(("lists", ((0, 1), (1, 2))), bar_told, TIE, line_web(3), ((0, 1, 2),) * 2)
        self.tells(("lists", ((0, 1),) * 3), bar_told, R3, all_web(2), ((0, 1),) * 3)
        self.tells(("lists", ((1,),)), bar_told, LOOP, web(2, (0, 1), (1, 1)), ((0, 1),))
        self.assertEqual(self.asked(way_web(">>"), line_web(2), ((0, 1),) * 3)[0], "bar")
        self.assertEqual(self.asked(LOOP, all_web(3), ((0,),))[0], "bar")
        self.assertEqual(self.asked(R2, line_web(3), ((0, 1, 2),) * 2)[0], "bar")

    def test_void_lists_and_lists_of_one(self):
        for one, other in itertools.product([ONE, LOOP, TIE, R2, R3], repeat=2):
            lists = full_lists(one, other)
            for a in range(one[0]):
                self.assertEqual(self.asked(one, other, lists[:a] + ((),) + lists[a + 1:])[0], "bar")
            for f in itertools.product(range(other[0]), repeat=one[0]):
                self.asked(one, other, tuple((x,) for x in f))

    def test_all_webs_of_two_places(self):
        for one, other in itertools.product([VOID, ONE, LOOP] + all_webs(2), repeat=2):
            self.asked(one, other, full_lists(one, other))

    def test_lists_of_all_sorts(self):
        chance = random.Random(660)
        told = [self.asked(one, other, some_lists(chance, one, other, chance.randrange(6, 11)))[0]
                for one, other in zip(some_webs(661, 400, 4), some_webs(662, 400, 3))]
        self.assertTrue(told.count("bar") > 100 and told.count("lists") > 100)

    def test_four_places_into_three(self):
        chance = random.Random(663)
        told = [self.asked(line_web(4), line_web(3), ((0, 1, 2),) * 4)[0]]
        for _ in range(150):
            one, other = some_web(chance, 4, chance.randrange(2, 7)), some_web(chance, 3, chance.randrange(2, 6))
            told.append(self.asked(one, other, full_lists(one, other))[0])
        self.assertTrue(told.count("bar") > 20 and told.count("lists") > 20)

    def test_a_bar_led_on_bars_there(self):
        chance = random.Random(664)
        many = 0
        for one, other in zip(some_webs(665, 200, 4), some_webs(666, 200, 3)):
            onto = some_web(chance, 3, 6)
            found = all_led(one, onto)
            there = some_lists(chance, onto, other, 8)
            for h in found[-1:]:
                word, tree = bar_told(one, other, tuple(there[b] for b in h))
                if word == "bar":
                    led = tree_led_on(tree, h)
                    self.tells(True, is_tree, onto, led)
                    self.tells((), images, onto, other, there, led)
                    self.tells(True, lets_bar, onto, other, there, led)
                    many += 1
        self.assertGreater(many, 20)


if __name__ == "__main__":
    unittest.main()
