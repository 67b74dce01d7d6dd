"""Points [3] and [10] to [13]: webs."""

import itertools
import random
import unittest

from helper import JUNK, Promise, all_webs, some_web, some_webs, spoiled, web
from webintoweb.webs import (
    backwards, has_tie, ins, is_web, loops, outs, part, pieces, renamed, web_of,
)

VOID = web(0)
LOOP = web(1, (0, 0))
SMALL = web(4, (0, 0), (0, 2), (1, 0), (1, 3), (2, 0), (3, 3))


def full_web(n):
    return (n, tuple(itertools.product(range(n), repeat=2)))


class IsWeb(Promise):
    def test_webs(self):
        for thing in [VOID, LOOP, SMALL, web(1), web(64), web(64, (63, 63)), full_web(24), full_web(64)]:
            self.tells(True, is_web, thing)
        for n in range(3):
            for thing in all_webs(n):
                self.tells(True, is_web, thing)

    def test_the_count_is_from_0_to_64(self):
        for n, due in [(-1, False), (0, True), (1, True), (63, True), (64, True), (65, False), (10 ** 199, False)]:
            self.tells(due, is_web, (n, ()))
        self.tells(False, is_web, full_web(65))

    def test_the_count_is_a_whole_number(self):
        for n in (True, False, None, "1", "", [], (), [1], (1,)):
            self.tells(False, is_web, (n, ()))

    def test_it_is_a_tuple_of_two(self):
        for thing in [(), (1,), ((),), (1, (), ()), (1, (), None), [1, ()], ((), 1), ((1, ()),)]:
            self.tells(False, is_web, thing)

    def test_ties_are_a_tuple(self):
        for ties in ([], [(0, 0)], None, 0, True, "", "00"):
            self.tells(False, is_web, (1, ties))

    def test_a_tie_is_a_tuple_of_two_places(self):
        wrong = [
            [0, 1], (0,), (0, 1, 1), (), None, 0, "01", (0, "1"), ("0", 1), (None, 1), (0, None), (0, True),
            (False, 1), (True, 1), (-1, 0), (0, -1), (2, 0), (0, 2), (0, (1,)), ([0], 1), (0, 10 ** 199),
        ]
        for tie in wrong:
            self.tells(False, is_web, (2, (tie,)))
            self.tells(False, is_web, (2, ((0, 0), tie)))
            self.tells(False, is_web, (2, (tie, (1, 1))))
        self.tells(False, is_web, (0, ((0, 0),)))

    def test_ties_rise_and_are_unlike(self):
        for ties, due in [
            (((0, 1), (1, 0)), True), (((1, 0), (0, 1)), False), (((0, 0), (0, 1)), True),
            (((0, 1), (0, 0)), False), (((0, 1), (0, 1)), False), (((1, 0), (0, 1), (1, 1)), False),
            (((0, 0), (1, 1), (1, 0)), False), (((0, 0), (1, 0), (1, 0), (1, 1)), False),
        ]:
            self.tells(due, is_web, (2, ties))

    def test_things_of_other_kinds_within(self):
        for right in (VOID, LOOP, SMALL, web(2, (0, 1), (1, 0))):
            for thing in spoiled(right):
                self.tells(False, is_web, thing)

    def test_other_plain_things(self):
        for thing in JUNK:
            self.tells(False, is_web, thing)


class WebOf(Promise):
    def test_pairs_in_any_order_and_several_times(self):
        pairs = list(SMALL[1])
        for order in itertools.permutations(pairs):
            self.assertEqual(web_of(4, list(order)), SMALL)
        self.tells(SMALL, web_of, 4, pairs + pairs[::-1] + pairs[:2])

    def test_no_pairs(self):
        self.tells(VOID, web_of, 0, [])
        self.tells(web(24), web_of, 24, [])

    def test_just_these_ties(self):
        chance = random.Random(10)
        for n in (1, 2, 5, 24):
            pairs = [(chance.randrange(n), chance.randrange(n)) for _ in range(1000 if n == 24 else 9)]
            told = self.told(web_of, n, pairs)
            self.tells(True, is_web, told)
            self.assertEqual(told[0], n)
            self.assertEqual(set(told[1]), set(pairs))

    def test_what_is_done_to_the_pairs_later_changes_nothing(self):
        pairs = [(0, 1)]
        told = web_of(2, pairs)
        pairs.append((1, 1))
        self.same(told, web(2, (0, 1)))


class Ties(Promise):
    def webs(self):
        return all_webs(2) + some_webs(11, 20, 8) + [VOID, LOOP, SMALL, full_web(24)]

    def test_has_tie(self):
        for one in self.webs():
            for a, b in itertools.product(range(one[0]), repeat=2):
                self.tells((a, b) in one[1], has_tie, one, a, b)

    def test_outs_and_ins(self):
        for one in self.webs():
            for a in range(one[0]):
                self.tells(tuple(b for b in range(one[0]) if (a, b) in one[1]), outs, one, a)
                self.tells(tuple(b for b in range(one[0]) if (b, a) in one[1]), ins, one, a)

    def test_loops(self):
        for one in self.webs():
            self.tells(tuple(a for a in range(one[0]) if (a, a) in one[1]), loops, one)

    def test_by_hand(self):
        self.tells((0, 2), outs, SMALL, 0)
        self.tells((0, 1, 2), ins, SMALL, 0)
        self.tells((1, 3), ins, SMALL, 3)
        self.tells((), outs, web(2, (1, 0)), 0)
        self.tells((), ins, web(2, (1, 0)), 1)
        self.tells((0, 3), loops, SMALL)
        self.tells((), loops, VOID)


class Parts(Promise):
    def test_by_hand(self):
        self.tells(web(2, (0, 0), (1, 1)), part, SMALL, (0, 3))
        self.tells(web(2, (0, 1), (1, 1)), part, SMALL, (1, 3))
        self.tells(web(3, (0, 1), (0, 2), (1, 1), (2, 2)), part, web(5, (1, 2), (1, 4), (2, 2), (4, 4), (0, 1)),
                   (1, 2, 4))

    def test_on_none_and_on_all(self):
        for one in [VOID, LOOP, SMALL, full_web(24)] + all_webs(2):
            self.tells(VOID, part, one, ())
            self.tells(one, part, one, tuple(range(one[0])))

    def test_place_for_place(self):
        for one in some_webs(12, 15, 6):
            for size in range(one[0] + 1):
                for places in itertools.combinations(range(one[0]), size):
                    told = self.told(part, one, places)
                    self.tells(True, is_web, told)
                    self.assertEqual(told[0], size)
                    for i, j in itertools.product(range(size), repeat=2):
                        self.assertEqual((i, j) in told[1], (places[i], places[j]) in one[1])

    def test_backwards(self):
        self.tells(web(4, (0, 0), (0, 1), (0, 2), (2, 0), (3, 1), (3, 3)), backwards, SMALL)
        for one in [VOID, LOOP, full_web(24)] + some_webs(13, 20, 8):
            told = self.told(backwards, one)
            self.tells(True, is_web, told)
            self.assertEqual(told[0], one[0])
            self.assertEqual(set(told[1]), {(b, a) for a, b in one[1]})
            self.tells(one, backwards, told)

    def test_renamed(self):
        self.tells(web(3, (0, 0), (2, 1)), renamed, web(3, (0, 2), (1, 1)), (2, 0, 1))
        for one in [VOID, LOOP, SMALL] + some_webs(14, 12, 4):
            for names in itertools.permutations(range(one[0])):
                told = self.told(renamed, one, names)
                self.tells(True, is_web, told)
                self.assertEqual(told[0], one[0])
                self.assertEqual(set(told[1]), {(names[a], names[b]) for a, b in one[1]})
        chance = random.Random(15)
        names = list(range(24))
        chance.shuffle(names)
        great = some_web(chance, 24, 4)
        self.assertEqual(set(renamed(great, tuple(names))[1]), {(names[a], names[b]) for a, b in great[1]})


class Pieces(Promise):
    def test_by_hand(self):
        self.tells((), pieces, VOID)
        self.tells(((0,),), pieces, LOOP)
        self.tells(((0,), (1,), (2,)), pieces, web(3, (1, 1)))
        self.tells(((0, 2), (1, 3)), pieces, web(4, (2, 0), (3, 1)))
        self.tells(((0, 1, 2, 3),), pieces, web(4, (0, 1), (2, 1), (2, 3)))
        self.tells(((0, 3, 5), (1, 4), (2,)), pieces, web(6, (1, 4), (3, 5), (5, 0)))

    def test_a_long_way_about(self):
        # The ties come in an order in which pieces that are great by now meet last.
        self.tells((tuple(range(24)),), pieces, web_of(24, [(k, 23 - k) for k in range(12)] + [
            (23 - k, k + 1) for k in range(11)]))
        self.tells((tuple(range(0, 24, 2)), tuple(range(1, 24, 2))), pieces, web_of(24, [
            (k + 2, k) for k in range(22)]))

    def test_against_going_on_from_place_to_place(self):
        chance = random.Random(16)
        for n in list(range(9)) * 4 + [24] * 4:
            one = web_of(n, [(chance.randrange(n), chance.randrange(n)) for _ in range(n * 2 // 3)])
            near = {a: {a} | set(outs(one, a)) | set(ins(one, a)) for a in range(n)}
            for _ in range(n):
                near = {a: {c for b in near[a] for c in near[b]} for a in near}
            due = sorted({tuple(sorted(near[a])) for a in range(n)})
            self.tells(tuple(due), pieces, one)


if __name__ == "__main__":
    unittest.main()
