"""Points [56] to [58]: cores, turnings and least webs told."""

import itertools
import random
import unittest

from helper import Promise, all_led, all_webs, some_web, some_webs, web
from webintoweb.corechecker import lets_core, lets_least
from webintoweb.cores import all_turnings, core_told, least_told, least_web
from webintoweb.families import all_web, line_web, round_web, way_web
from webintoweb.leadings import is_leading, is_one_to_one, is_onto
from webintoweb.sames import same_told
from webintoweb.turnings import is_turning
from webintoweb.webs import part, renamed

VOID, ONE, LOOP = web(0), web(1), web(1, (0, 0))
KNOWN = [VOID, ONE, LOOP, round_web(2), round_web(3), round_web(4), round_web(5), all_web(4), all_web(5), line_web(4),
         line_web(5), way_web("><>"), way_web(">><<"), web(5), web(4, (0, 0), (0, 1)), web(4, (0, 1), (1, 0), (1, 2), (2, 1))]
SOME = KNOWN + all_webs(2) + some_webs(450, 40, 5)


class Cores(Promise):
    def test_just_one_of_both(self):
        words = []
        for own in SOME:
            word, told = self.told(core_told, own)
            if all(is_onto(own, f) for f in all_led(own, own)):
                self.assertEqual(word, "core")
                self.assertIs(lets_core(own, told), True)
            else:
                self.assertEqual(word, "lesser")
                self.assertTrue(is_leading(own, own, told))
                self.assertFalse(is_onto(own, told))
            words.append(word)
        self.assertGreater(words.count("core"), 10)
        self.assertGreater(words.count("lesser"), 20)

    def test_by_hand(self):
        self.tells(("core", ()), core_told, VOID)
        for own in (ONE, LOOP, round_web(3), all_web(4), line_web(5), round_web(5), web(2, (0, 1))):
            self.assertEqual(core_told(own)[0], "core")
        for own in (web(2), round_web(4)[:1] + (round_web(4)[1] + ((3, 3),),), way_web("><"), web(2, (0, 0))):
            self.assertEqual(core_told(own)[0], "lesser")


class Turnings(Promise):
    def test_all_of_them_rising(self):
        for own in SOME:
            due = [f for f in itertools.permutations(range(own[0]))
                   if all((f[a], f[b]) in own[1] for a, b in own[1])]
            self.assertEqual(due, sorted(due))
            self.tells(due, all_turnings, own)
            self.assertTrue(all(is_turning(own, f) for f in due))

    def test_by_hand(self):
        self.tells([()], all_turnings, VOID)
        self.tells([(0,)], all_turnings, ONE)
        self.tells([(0,)], all_turnings, LOOP)
        self.tells([(0, 1, 2), (1, 2, 0), (2, 0, 1)], all_turnings, round_web(3))
        self.tells([(0, 1, 2, 3, 4)], all_turnings, line_web(5))
        self.assertEqual(len(all_turnings(all_web(5))), 120)
        self.assertEqual(len(all_turnings(web(5))), 120)

    def test_a_told_list_is_the_askers_own(self):
        first = all_turnings(round_web(2))
        first.reverse()
        first.append(())
        self.same(all_turnings(round_web(2)), [(0, 1), (1, 0)])


class Least(Promise):
    def test_let_by(self):
        for own in SOME:
            paper = self.told(least_told, own)
            self.assertIs(lets_least(own, paper), True)
            self.same(type(paper), tuple)
            # As few places as any web has into which it is led, and which is led into it.
            least = min(len(set(f)) for f in all_led(own, own))
            self.assertEqual(len(paper[0]), least)

    def test_least_web_is_the_part_that_some_least_paper_keeps(self):
        for own in SOME:
            told = self.told(least_web, own)
            folds = [f for f in all_led(own, own) if all(f[x] == x for x in f)]
            least = min(len(set(f)) for f in folds)
            due = {part(own, tuple(sorted(set(f)))) for f in folds if len(set(f)) == least}
            self.assertIn(told, due)

    def test_by_hand(self):
        self.tells(((), (), ()), least_told, VOID)
        self.tells(VOID, least_web, VOID)
        self.tells(ONE, least_web, web(5))
        self.tells(LOOP, least_web, web(4, (0, 1), (1, 2), (2, 2), (2, 3)))
        self.assertIn(least_web(way_web("><><")), (web(2, (0, 1)), web(2, (1, 0))))
        self.tells(round_web(2), least_web, web(4, (0, 1), (1, 0), (1, 2), (2, 1), (2, 3), (3, 2)))
        self.tells(round_web(5), least_web, round_web(5))

    def test_alike_and_led_into_itself_by_turnings_alone(self):
        for own in SOME:
            least = least_web(own)
            self.assertTrue(all_led(own, least) and all_led(least, own))
            self.assertEqual(all_led(least, least), all_turnings(least))

    def test_of_alike_webs_one_up_to_names(self):
        chance = random.Random(451)
        many = 0
        for own, other in itertools.combinations(SOME[:40], 2):
            if all_led(own, other) and all_led(other, own):
                one, last = least_web(own), least_web(other)
                self.assertEqual(same_told(one, last)[0], "same")
                for f in all_led(one, last):
                    self.assertTrue(is_one_to_one(f) and is_onto(last, f))
                    self.assertEqual(renamed(one, f), last)
                many += 1
        self.assertGreater(many, 30)
        for own in SOME:
            names = list(range(own[0]))
            chance.shuffle(names)
            turned = renamed(own, tuple(names))
            self.assertEqual(same_told(least_web(own), least_web(turned))[0], "same")
            self.assertEqual(len(all_turnings(own)), len(all_turnings(turned)))
            self.assertEqual(core_told(own)[0], core_told(turned)[0])

    def test_folded_more_than_once(self):
        # Each way of folding it leaves one that folds again, until a tie is left.
        for text in (">><<", "><><", "<<>>", ">>><"):
            own = way_web(text)
            self.assertIs(lets_least(own, least_told(own)), True)
        chance = random.Random(452)
        for _ in range(40):
            own = some_web(chance, 5, 2)
            self.assertIs(lets_least(own, least_told(own)), True)


if __name__ == "__main__":
    unittest.main()
