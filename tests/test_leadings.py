"""Points [3] and [15] to [18]: leadings and lists."""

import itertools
import random
import unittest

from helper import JUNK, Promise, all_led, all_tuples, all_webs, leads, some_lists, some_webs, spoiled, web
from webintoweb.families import all_web, line_web, round_web, way_web
from webintoweb.leadings import (
    are_lists, behind, classes_of, ends_kept, full_lists, hit, is_leading, is_one_to_one, is_onto,
    itself, keeps, met_lists,
)

VOID = web(0)
ONE = web(1)
LOOP = web(1, (0, 0))


class IsLeading(Promise):
    def test_against_the_words_at_small_webs(self):
        webs = [VOID, ONE, LOOP] + all_webs(2)[::3] + some_webs(20, 12, 3)
        for W, V in itertools.product(webs, repeat=2):
            for f in all_tuples(W, V):
                self.tells(leads(W, V, f), is_leading, W, V, f)

    def test_of_the_web_without_places(self):
        for V in (VOID, ONE, LOOP, all_web(3)):
            self.tells(True, is_leading, VOID, V, ())
            self.tells(False, is_leading, VOID, V, (0,))
        self.tells(False, is_leading, ONE, VOID, ())
        self.tells(False, is_leading, ONE, VOID, (0,))

    def test_loops(self):
        self.tells(True, is_leading, LOOP, LOOP, (0,))
        self.tells(False, is_leading, LOOP, ONE, (0,))
        self.tells(True, is_leading, all_web(24), LOOP, (0,) * 24)

    def test_the_way_of_a_tie_counts(self):
        self.tells(True, is_leading, web(2, (0, 1)), web(2, (0, 1)), (0, 1))
        self.tells(False, is_leading, web(2, (0, 1)), web(2, (0, 1)), (1, 0))

    def test_the_last_tie_counts_at_many_places(self):
        self.tells(True, is_leading, round_web(24), round_web(12), tuple(k % 12 for k in range(24)))
        self.tells(False, is_leading, round_web(23), round_web(12), tuple(k % 12 for k in range(23)))
        self.tells(True, is_leading, all_web(24), all_web(24), tuple(range(23, -1, -1)))

    def test_one_too_many_and_one_too_few(self):
        V = web(2, (0, 0), (0, 1), (1, 0), (1, 1))
        for thing in [(), (0,), (0, 1, 0), (0, 1, None), ((0, 1),)]:
            self.tells(False, is_leading, web(2), V, thing)

    def test_out_of_bounds(self):
        for thing in [(0, 2), (2, 0), (-1, 0), (0, -1), (0, 10 ** 199)]:
            self.tells(False, is_leading, web(2), all_web(2), thing)

    def test_things_of_other_kinds_within(self):
        for thing in spoiled((0, 1)) + list(JUNK):
            self.tells(False, is_leading, web(2), all_web(2), thing)
            self.tells(False, is_leading, web(2, (0, 1)), all_web(2), thing)
        for thing in spoiled(()) + [thing for thing in JUNK if thing != ()]:
            self.tells(False, is_leading, VOID, all_web(2), thing)


class AreLists(Promise):
    def test_all_small_ones(self):
        rows = [row for size in range(4) for row in itertools.combinations(range(3), size)]
        for lists in itertools.product(rows, repeat=2):
            self.tells(True, are_lists, web(2, (0, 1)), all_web(3), lists)

    def test_of_no_places(self):
        self.tells(True, are_lists, VOID, all_web(3), ())
        self.tells(True, are_lists, VOID, VOID, ())
        self.tells(True, are_lists, web(2), VOID, ((), ()))
        self.tells(False, are_lists, web(2), VOID, ((), (0,)))
        self.tells(False, are_lists, VOID, all_web(3), ((),))

    def test_one_too_many_and_one_too_few(self):
        for thing in [(), ((0,),), ((0,), (1,), (2,)), ((), (), ())]:
            self.tells(False, are_lists, web(2), all_web(3), thing)

    def test_out_of_order_twice_the_same_out_of_bounds(self):
        for row in [(1, 0), (0, 0), (0, 1, 1), (0, 2, 1), (1, 2, 0), (3,), (0, 3), (-1,), (-1, 0), (10 ** 199,)]:
            self.tells(False, are_lists, web(2), all_web(3), (row, ()))
            self.tells(False, are_lists, web(2), all_web(3), ((0, 1, 2), row))

    def test_things_of_other_kinds_within(self):
        for right in (((0, 1), ()), ((0, 1, 2), (1,)), ((), ())):
            for thing in spoiled(right):
                self.tells(False, are_lists, web(2), all_web(3), thing)
        for thing in JUNK:
            self.tells(False, are_lists, web(3), all_web(3), thing)
        for thing in [thing for thing in JUNK if thing != ()]:
            self.tells(False, are_lists, VOID, all_web(3), thing)


class Lists(Promise):
    def test_full_lists(self):
        self.tells((), full_lists, VOID, all_web(3))
        self.tells(((), ()), full_lists, web(2, (0, 1)), VOID)
        self.tells(((0, 1, 2), (0, 1, 2)), full_lists, web(2), all_web(3))
        self.tells((tuple(range(24)),) * 24, full_lists, all_web(24), line_web(24))
        for W, V in zip(some_webs(21, 10, 8), some_webs(22, 10, 8)):
            self.tells(True, are_lists, W, V, full_lists(W, V))

    def test_met_lists(self):
        self.tells((), met_lists, (), ())
        self.tells(((1, 3), (), (), (0,)), met_lists,
                   ((0, 1, 3), (0, 1), (), (0,)), ((1, 2, 3), (2, 3), (0, 1), (0, 1)))

    def test_met_lists_are_kept_just_where_both_are(self):
        chance = random.Random(23)
        for _ in range(30):
            W, V = (chance.randrange(4), ()), (chance.randrange(4), ())
            one, other = some_lists(chance, W, V), some_lists(chance, W, V)
            met = self.told(met_lists, one, other)
            self.tells(True, are_lists, W, V, met)
            for f in all_tuples(W, V):
                self.assertEqual(keeps(met, f), keeps(one, f) and keeps(other, f))

    def test_ends_kept(self):
        W, V = web(4, (0, 1)), web(3)
        full = (0, 1, 2)
        self.tells((full,) * 4, ends_kept, W, V, [])
        self.tells((full, (2,), full, full), ends_kept, W, V, [(1, 2)])
        self.tells((full, (2,), full, full), ends_kept, W, V, [(1, 2), (1, 2), (1, 2)])
        self.tells(((0,), (), full, (1,)), ends_kept, W, V, [(3, 1), (1, 2), (0, 0), (1, 0), (3, 1)])
        self.tells((full, full, (), full), ends_kept, W, V, [(2, 0), (2, 1), (2, 0)])
        self.tells((full, full, (), full), ends_kept, W, V, [(2, 0), (2, 1), (2, 2)])
        self.tells((), ends_kept, VOID, V, [])
        self.tells(((),), ends_kept, ONE, VOID, [])

    def test_ends_kept_in_any_order(self):
        pairs = [(0, 0), (1, 2), (1, 1), (3, 1), (3, 1)]
        for order in itertools.permutations(pairs):
            self.assertEqual(ends_kept(web(4), web(3), list(order)), ((0,), (), (0, 1, 2), (1,)))
        many = [(k % 24, k % 24) for k in range(1000)]
        self.tells(tuple((k,) for k in range(24)), ends_kept, web(24), web(24), many)

    def test_keeps(self):
        lists = ((0, 2), (1,), (0, 1, 2))
        due = set(itertools.product(*lists))
        for f in itertools.product(range(3), repeat=3):
            self.tells(f in due, keeps, lists, f)
        self.tells(True, keeps, (), ())
        self.tells(False, keeps, ((), (0,)), (0, 0))
        self.tells(False, keeps, ((0,), ()), (0, 0))


class Behind(Promise):
    def test_by_hand(self):
        self.tells((5, 5, 4), behind, (1, 1, 0), (4, 5))
        self.tells((), behind, (), (4, 5))
        self.tells((), behind, (), ())

    def test_leadings_behind_one_another_are_leadings(self):
        webs = some_webs(24, 12, 3)
        for W, V, U in itertools.product(webs, repeat=3):
            for f in all_led(W, V)[:3]:
                for g in all_led(V, U)[:3]:
                    told = behind(f, g)
                    self.assertTrue(is_leading(W, U, told))
                    self.same(told, tuple(g[x] for x in f))

    def test_three_behind_one_another(self):
        chance = random.Random(25)
        for _ in range(50):
            f, g, h = [tuple(chance.randrange(24) for _ in range(24)) for _ in range(3)]
            self.tells(behind(behind(f, g), h), behind, f, behind(g, h))

    def test_itself(self):
        self.tells((), itself, VOID)
        self.tells((0, 1, 2), itself, web(3, (1, 1)))
        self.tells(tuple(range(24)), itself, line_web(24))
        for W in some_webs(26, 20, 8):
            self.tells(True, is_leading, W, W, itself(W))
            for f in all_tuples(web(2), W):
                self.tells(f, behind, f, itself(W))
        self.tells((1, 0, 1), behind, itself(web(3)), (1, 0, 1))


class Hit(Promise):
    def test_hit(self):
        self.tells((), hit, ())
        self.tells((0, 3, 5), hit, (5, 0, 3, 3, 5, 0))
        self.tells((2, 7, 19), hit, (19, 2, 7))
        self.tells(tuple(range(24)), hit, tuple(range(23, -1, -1)))

    def test_onto(self):
        for n in range(4):
            for m in range(4):
                for f in itertools.product(range(m), repeat=n):
                    self.tells(set(f) == set(range(m)), is_onto, web(m), f)
        self.tells(True, is_onto, VOID, ())
        self.tells(False, is_onto, ONE, ())

    def test_classes(self):
        self.tells((), classes_of, ())
        self.tells(((0, 2), (1, 4), (3,)), classes_of, (7, 3, 7, 0, 3))
        self.tells((tuple(range(24)),), classes_of, (5,) * 24)
        self.tells(tuple((k,) for k in range(24)), classes_of, tuple(range(23, -1, -1)))
        for f in itertools.product(range(4), repeat=4):
            due = sorted({tuple(b for b in range(4) if f[b] == f[a]) for a in range(4)})
            self.tells(tuple(due), classes_of, f)

    def test_one_to_one(self):
        for n in range(4):
            for f in itertools.product(range(4), repeat=n):
                self.tells(len(set(f)) == n, is_one_to_one, f)
        self.tells(True, is_one_to_one, tuple(range(30, 6, -1)))
        self.tells(False, is_one_to_one, tuple(range(30, 6, -1)) + (7,))


class Families(Promise):
    def test_ways_are_led_into_lines_and_all(self):
        self.tells(True, is_leading, way_web(">" * 23), line_web(24), tuple(range(24)))
        self.tells(True, is_leading, way_web("><><"), all_web(2), (0, 1, 0, 1, 0))
        self.tells(False, is_leading, way_web(">>"), way_web("><"), (0, 1, 2))


if __name__ == "__main__":
    unittest.main()
