"""Points [66] and [5]: by a middle, closed pairs are enough."""

import itertools
import random
import unittest

from helper import Promise, all_led, all_webs, closed_pairs, fits, some_fitting, some_lists, some_web, some_webs, web
from webintoweb.enough import led_through, middle_told
from webintoweb.families import all_web, line_web, round_web, way_web
from webintoweb.leadings import full_lists
from webintoweb.middles import by_likeness, by_numbers
from webintoweb.pairchecker import lets_pairs

VOID, ONE, LOOP = web(0), web(1), web(1, (0, 0))
TIE, R2, R3 = web(2, (0, 1)), round_web(2), round_web(3)


class Enough(Promise):
    def asked(self, one, other, lists, middle):
        """A leading just where there is one, else a paper; each pair of the closed table is some leading's."""
        found = all_led(one, other, lists)
        told = self.told(middle_told, one, other, lists, middle)
        self.assertEqual((type(told), len(told)), (tuple, 2))
        if not found:
            self.assertEqual(told[0], "none")
            self.tells(True, lets_pairs, one, other, lists, told[1])
            return False
        self.assertEqual((told[0], type(told[1])), ("leading", tuple))
        self.assertIn(repr(told[1]), map(repr, found))
        for a, row in enumerate(closed_pairs(one, other, lists)):
            for b, pairs in enumerate(row):
                for x, y in pairs:
                    f = self.told(led_through, one, other, lists, middle, a, b, x, y)
                    self.assertIn(repr(f), map(repr, found))
                    self.assertEqual((f[a], f[b]), (x, y))
        return True

    def test_without_places(self):
        for other in (VOID, ONE, LOOP, line_web(3)):
            self.tells(("leading", ()), middle_told, VOID, other, (), by_numbers(other[0]))
        for one in (ONE, LOOP, R3):
            self.assertFalse(self.asked(one, VOID, ((),) * one[0], ()))

    def test_one_place(self):
        self.tells(("leading", (0,)), middle_told, ONE, LOOP, ((0,),), by_numbers(1))
        self.tells((1,), led_through, LOOP, web(2, (0, 0), (1, 1)), ((0, 1),), by_numbers(2), 0, 0, 1, 1)
        self.assertFalse(self.asked(LOOP, ONE, ((0,),), by_numbers(1)))
        self.assertFalse(self.asked(ONE, ONE, ((),), by_numbers(1)))

    def test_by_hand(self):
        self.assertFalse(self.asked(R3, all_web(2), ((0, 1),) * 3, by_numbers(2)))
        self.assertTrue(self.asked(round_web(4), all_web(2), ((0, 1),) * 4, by_numbers(2)))
        self.assertTrue(self.asked(round_web(6), R3, ((0, 1, 2),) * 6, by_likeness(3)))
        self.assertFalse(self.asked(round_web(4), R3, ((0, 1, 2),) * 4, by_likeness(3)))
        self.tells((0, 1, 0, 1), led_through, round_web(4), all_web(2), ((0, 1),) * 4, by_numbers(2), 2, 1, 0, 1)
        self.tells((2, 0, 1), led_through, R3, R3, ((0, 1, 2),) * 3, by_likeness(3), 1, 1, 0, 0)

    def test_all_webs_into_two_places(self):
        for one, other in itertools.product([VOID, ONE, LOOP] + all_webs(2), all_webs(2)):
            self.asked(one, other, full_lists(one, other), by_numbers(2))
        told = [self.asked(one, other, full_lists(one, other), by_likeness(2))
                for one, other in zip(some_webs(630, 60, 4), all_webs(2) * 4)]
        self.assertTrue(told.count(True) > 5 and told.count(False) > 5)

    def test_middles_and_lists_of_all_sorts(self):
        chance = random.Random(631)
        told = []
        for one, (other, middle) in zip(some_webs(632, 220, 4), some_fitting(633, 220, 4)):
            lists = some_lists(chance, one, other, chance.randrange(6, 11))
            if fits(middle, lists):
                told.append(self.asked(one, other, lists, middle))
        self.assertTrue(told.count(True) > 40 and told.count(False) > 40)

    def test_ties_by_numbers_and_by_likeness(self):
        chance = random.Random(634)
        for other, middle in [(line_web(4), by_numbers(4)), (way_web("><>"), by_numbers(4)), (round_web(4), by_likeness(4)),
                              (web(4, (0, 0), (1, 2), (2, 3), (3, 1)), by_likeness(4)), (web(4), by_likeness(4))]:
            for _ in range(6):
                one = some_web(chance, 4, chance.randrange(1, 5))
                lists = some_lists(chance, one, other, 8)
                self.assertTrue(fits(middle, lists))
                self.asked(one, other, lists, middle)

    def test_seven_places_into_five(self):
        for one, other, middle in [
            (way_web(">><><<"), line_web(5), by_numbers(5)), (round_web(7), line_web(5), by_numbers(5)),
            (way_web("<<<<<<"), round_web(5), by_likeness(5)), (round_web(7), round_web(5), by_likeness(5)),
        ]:
            lists = full_lists(one, other)
            found = all_led(one, other, lists)
            word, told = self.told(middle_told, one, other, lists, middle)
            self.assertEqual(word, "leading" if found else "none")
            if found:
                self.assertIn(told, found)
                f = found[-1]
                self.assertIn(led_through(one, other, lists, middle, 6, 3, f[6], f[3]), found)
            else:
                self.tells(True, lets_pairs, one, other, lists, told)


if __name__ == "__main__":
    unittest.main()
