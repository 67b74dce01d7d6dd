"""Points [30] to [32], and [5]: leadings found, or papers that there are none."""

import itertools
import random
import unittest

from helper import (
    Promise, all_led, all_webs, closed_lists, refusal_due, some_lists, some_web, some_webs, web, without,
)
from webintoweb.families import all_web, line_web, round_web, way_web
from webintoweb.finding import led, void_paper
from webintoweb.leadings import ends_kept, full_lists, is_leading, keeps
from webintoweb.nonechecker import lets_none

VOID = web(0)


class Asking(Promise):
    def asked(self, W, V, lists):
        """Just one of yes and no comes, as going through all tuples has it."""
        found = all_led(W, V, lists)
        told = self.told(led, W, V, lists)
        self.assertEqual((type(told), len(told)), (tuple, 2))
        if found:
            self.same(told, ("leading", found[0]))
            self.assertTrue(is_leading(W, V, told[1]) and keeps(lists, told[1]))
        else:
            self.assertEqual(told[0], "none")
            self.tells(True, lets_none, W, V, lists, told[1])
            self.assertIsNone(refusal_due(W, V, lists, told[1]))
        return bool(found)


class Led(Asking):
    def test_by_hand(self):
        self.tells(("leading", (0, 1, 0)), led, way_web("><"), all_web(2), ((0, 1),) * 3)
        self.tells(("leading", (1, 0, 1)), led, way_web("><"), all_web(2), ((0, 1), (0, 1), (1,)))
        self.tells(("leading", (0, 1, 2, 0, 1, 2)), led, round_web(6), round_web(3), ((0, 1, 2),) * 6)

    def test_without_places(self):
        for V in (VOID, web(1), all_web(3)):
            self.tells(("leading", ()), led, VOID, V, ())
        for W in (web(1), web(3, (0, 1))):
            told = self.told(led, W, VOID, ((),) * W[0])
            self.assertEqual(told[0], "none")
            self.tells(True, lets_none, W, VOID, ((),) * W[0], told[1])

    def test_all_webs_of_two_places(self):
        webs = all_webs(0) + all_webs(1) + all_webs(2)
        for W, V in itertools.product(webs, repeat=2):
            self.asked(W, V, full_lists(W, V))

    def test_lists_of_all_sorts(self):
        chance = random.Random(130)
        answers = []
        for W, V in zip(some_webs(131, 250, 5), some_webs(132, 250, 4)):
            answers.append(self.asked(W, V, some_lists(chance, W, V, chance.randrange(5, 11))))
        self.assertTrue(answers.count(True) > 40 and answers.count(False) > 40)

    def test_lists_of_one_and_ends_kept(self):
        chance = random.Random(133)
        for W, V in zip(some_webs(134, 60, 4), some_webs(135, 60, 4)):
            if V[0]:
                self.asked(W, V, tuple((chance.randrange(V[0]),) for _ in range(W[0])))
                pairs = [(a, chance.randrange(V[0])) for a in range(0, W[0], 2)]
                self.asked(W, V, ends_kept(W, V, pairs))

    def test_loops(self):
        loop = web(1, (0, 0))
        for V in all_webs(2) + [round_web(3), all_web(3), line_web(3)]:
            self.asked(loop, V, full_lists(loop, V))

    def test_where_closing_alone_is_not_enough(self):
        for W, V in [
            (round_web(3), round_web(2)), (all_web(3), all_web(2)), (all_web(4), all_web(3)), (round_web(5), all_web(2)),
            (all_web(5), all_web(4)), (round_web(4), round_web(3)), (web(1, (0, 0)), all_web(4)),
        ]:
            self.assertFalse(self.asked(W, V, full_lists(W, V)))
            self.tells(None, void_paper, W, V, full_lists(W, V))

    def test_seven_places_into_five(self):
        chance = random.Random(136)
        for thick_w, thick_v in [(2, 3), (3, 4), (3, 5), (4, 6), (2, 6), (5, 8)]:
            W, V = some_web(chance, 7, thick_w), some_web(chance, 5, thick_v)
            self.asked(W, V, full_lists(W, V))
        self.asked(all_web(6), all_web(5), full_lists(all_web(6), all_web(5)))
        self.asked(round_web(7), all_web(5), full_lists(round_web(7), all_web(5)))

    def test_told_webs_with_more_places(self):
        for W, V in [
            (round_web(14), all_web(2)), (round_web(13), all_web(2)), (line_web(9), all_web(3)), (round_web(9), round_web(3)),
            (web(2, (0, 1)), line_web(24)), (web(2, (0, 1), (1, 0)), line_web(24)), (all_web(14), web(1)),
            (all_web(3), line_web(24)),
        ]:
            self.asked(W, V, full_lists(W, V))
        self.same(self.shallow(led, web(14), web(2), ((0, 1),) * 14), ("leading", (0,) * 14))
        self.tells(("leading", (0,) * 24), led, all_web(24), web(1, (0, 0)), ((0,),) * 24)


class VoidPaper(Promise):
    def test_by_hand(self):
        self.tells(None, void_paper, VOID, all_web(2), ())
        self.tells(None, void_paper, round_web(3), round_web(2), ((0, 1),) * 3)
        self.tells(None, void_paper, web(2, (0, 1)), all_web(2), ((0, 1),) * 2)
        self.tells(((), ("void", 1)), void_paper, web(3), all_web(2), ((0, 1), (), (0,)))
        self.tells(((), ("void", 0)), void_paper, web(1), VOID, ((),))

    def test_just_where_some_closed_list_is_void(self):
        chance = random.Random(140)
        answers = []
        for W, V in zip(some_webs(141, 250, 5), some_webs(142, 250, 4)):
            lists = some_lists(chance, W, V, chance.randrange(6, 11))
            told = self.told(void_paper, W, V, lists)
            shut = closed_lists(W, V, lists)
            self.assertEqual(told is None, () not in shut)
            answers.append(told is None)
            if told is not None:
                self.tells(True, lets_none, W, V, lists, told)
                strikes, end = told
                self.assertEqual(end[0], "void")
                # All of them to the closed ones: it is a closing.
                for strike in strikes:
                    lists = without(lists, strike)
                self.same(lists, shut)
        self.assertTrue(answers.count(True) > 40 and answers.count(False) > 40)

    def test_sixteen_places(self):
        W, V = line_web(16), line_web(15)
        told = self.told(void_paper, W, V, full_lists(W, V))
        self.tells(True, lets_none, W, V, full_lists(W, V), told)
        self.tells(None, void_paper, line_web(16), line_web(16), full_lists(line_web(16), line_web(16)))


if __name__ == "__main__":
    unittest.main()
