"""Point [40]: all leadings, and how many there are."""

import itertools
import random
import unittest

from helper import Promise, all_led, all_webs, some_lists, some_web, some_webs, web
from webintoweb.counting import all_leadings, count
from webintoweb.families import all_web, line_web, round_web, way_web
from webintoweb.leadings import full_lists, is_leading, keeps
from webintoweb.webs import web_of

VOID = web(0)


class Counting(Promise):
    def asked(self, W, V, lists):
        due = all_led(W, V, lists)
        self.assertEqual(due, sorted(due))
        self.tells(due, all_leadings, W, V, lists)
        self.tells(len(due), count, W, V, lists)

    def test_by_hand(self):
        self.tells([(0, 1), (1, 0)], all_leadings, web(2, (0, 1)), all_web(2), ((0, 1), (0, 1)))
        self.tells([(1, 0)], all_leadings, web(2, (0, 1)), all_web(2), ((1,), (0, 1)))
        self.tells([(0,), (2,)], all_leadings, web(1), web(3), ((0, 2),))
        self.tells(6, count, all_web(3), all_web(3), ((0, 1, 2),) * 3)
        self.tells(0, count, all_web(4), all_web(3), ((0, 1, 2),) * 4)

    def test_without_places(self):
        for V in (VOID, web(1), all_web(3)):
            self.tells([()], all_leadings, VOID, V, ())
            self.tells(1, count, VOID, V, ())
        self.tells([], all_leadings, web(2), VOID, ((), ()))
        self.tells(0, count, web(2), VOID, ((), ()))

    def test_void_lists(self):
        for lists in [((), (0, 1)), ((0, 1), ()), ((), ())]:
            self.tells([], all_leadings, web(2), all_web(2), lists)
            self.tells(0, count, web(2, (0, 1)), all_web(2), lists)
        # The product is 0, though that of all lists but the last would be far too much to go through.
        self.tells([], all_leadings, web(24), web(24), full_lists(web(23), web(24)) + ((),))
        self.tells(0, count, round_web(24), all_web(24), full_lists(web(23), web(24)) + ((),))

    def test_all_webs_of_two_places(self):
        for W, V in itertools.product(all_webs(0) + all_webs(1) + all_webs(2), repeat=2):
            self.asked(W, V, full_lists(W, V))

    def test_lists_of_all_sorts(self):
        chance = random.Random(210)
        for W, V in zip(some_webs(211, 200, 5), some_webs(212, 200, 4)):
            self.asked(W, V, some_lists(chance, W, V, chance.randrange(4, 11)))

    def test_lists_of_one(self):
        chance = random.Random(213)
        for W in some_webs(214, 40, 7):
            V = some_web(chance, 4, 8)
            f = tuple(chance.randrange(4) for _ in range(W[0]))
            due = [f] if is_leading(W, V, f) else []
            self.tells(due, all_leadings, W, V, tuple((x,) for x in f))

    def test_loops_and_ties_both_ways(self):
        V = web(3, (0, 0), (0, 1), (1, 2), (2, 1))
        self.asked(web(1, (0, 0)), V, ((0, 1, 2),))
        self.asked(web(2, (0, 0), (0, 1), (1, 0)), V, ((0, 1, 2),) * 2)
        self.asked(web(3, (0, 2), (2, 1), (2, 2)), V, ((0, 1, 2),) * 3)

    def test_up_to_twenty_thousand_tuples(self):
        self.asked(way_web("><>><"), web(5, (0, 1), (1, 2), (2, 3), (3, 4), (4, 0)), ((0, 1, 2, 3, 4),) * 6)
        self.tells(2 ** 14, count, web(14), web(2), ((0, 1),) * 14)
        self.tells(2, count, round_web(14), all_web(2), ((0, 1),) * 14)
        self.tells(0, count, round_web(13), all_web(2), ((0, 1),) * 13)
        self.tells(2 ** 9 + 2 * (-1) ** 9, count, round_web(9), all_web(3), ((0, 1, 2),) * 9)
        self.tells(24 * 23 // 2, count, web(2, (0, 1)), line_web(24), full_lists(web(2), line_web(24)))

    def test_a_told_list_is_the_askers_own(self):
        asked = (web(2, (0, 1)), all_web(2), ((0, 1), (0, 1)))
        first = all_leadings(*asked)
        first.append((9, 9))
        first.reverse()
        self.same(all_leadings(*asked), [(0, 1), (1, 0)])
        self.same(count(*asked), 2)
        none = all_leadings(web(1), VOID, ((),))
        none.append(())
        self.same(all_leadings(web(1), VOID, ((),)), [])
        one = all_leadings(VOID, VOID, ())
        one.clear()
        self.same(all_leadings(VOID, VOID, ()), [()])

    def test_a_list_parted_in_two_adds(self):
        chance = random.Random(215)
        for W, V in zip(some_webs(216, 60, 5), some_webs(217, 60, 4)):
            if W[0]:
                lists = some_lists(chance, W, V, 9)
                a = chance.randrange(W[0])
                cut = chance.randrange(len(lists[a]) + 1)
                halves = [lists[:a] + (half,) + lists[a + 1:] for half in (lists[a][:cut], lists[a][cut:])]
                self.assertEqual(count(W, V, lists), sum(count(W, V, half) for half in halves))

    def test_halves_without_a_tie_between_them_multiply(self):
        chance = random.Random(218)
        for one, other in zip(some_webs(219, 60, 3), some_webs(220, 60, 3)):
            V = some_web(chance, 3, 5)
            both = web_of(one[0] + other[0], list(one[1]) + [(a + one[0], b + one[0]) for a, b in other[1]])
            lists = some_lists(chance, both, V, 9)
            self.assertEqual(count(both, V, lists),
                             count(one, V, lists[:one[0]]) * count(other, V, lists[one[0]:]))

    def test_each_told_one_is_a_leading_that_keeps_the_lists(self):
        chance = random.Random(221)
        W, V = some_web(chance, 7, 2), some_web(chance, 5, 5)
        lists = some_lists(chance, W, V, 6)
        for f in all_leadings(W, V, lists):
            self.assertTrue(is_leading(W, V, f) and keeps(lists, f))


if __name__ == "__main__":
    unittest.main()
