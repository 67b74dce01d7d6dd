"""Points [19] and [20]: turnings, again and again."""

import itertools
import random
import unittest

from helper import JUNK, Promise, all_tuples, all_webs, leads, some_webs, spoiled, web
from webintoweb.families import all_web, line_web, round_web
from webintoweb.leadings import behind, itself
from webintoweb.turnings import again, is_turning, still_number, undone


class Turnings(Promise):
    def test_against_the_words(self):
        for W in all_webs(2) + some_webs(30, 25, 4):
            for f in all_tuples(W, W):
                due = leads(W, W, f) and sorted(f) == list(range(W[0]))
                self.tells(due, is_turning, W, f)

    def test_by_hand(self):
        self.tells(True, is_turning, web(0), ())
        self.tells(True, is_turning, round_web(24), tuple((k + 5) % 24 for k in range(24)))
        self.tells(False, is_turning, round_web(24), tuple(range(23, -1, -1)))
        self.tells(True, is_turning, all_web(24), tuple(range(23, -1, -1)))
        self.tells(False, is_turning, line_web(24), tuple(range(23, -1, -1)))
        self.tells(False, is_turning, web(2, (0, 0)), (0, 0))
        self.tells(False, is_turning, web(2, (0, 0)), (1, 0))

    def test_wrong_things(self):
        self.tells(True, is_turning, round_web(2), (1, 0))
        for thing in spoiled((1, 0)) + [(0,), (1, 0, 0), (), (1, 2), (-1, 0), (0, 0), (1, 1)] + list(JUNK):
            self.tells(False, is_turning, round_web(2), thing)
            if thing not in ((0, 0), (1, 1)):
                self.tells(False, is_turning, web(2), thing)
        self.tells(False, is_turning, web(2), (0, 0))

    def test_undone(self):
        self.tells((), undone, ())
        self.tells((2, 0, 1), undone, (1, 2, 0))
        for n in range(5):
            for f in itertools.permutations(range(n)):
                told = self.told(undone, f)
                self.same(behind(f, told), tuple(range(n)))
                self.same(behind(told, f), tuple(range(n)))

    def test_undone_is_a_turning_and_ties_are_ties_both_ways(self):
        for W in all_webs(2) + some_webs(31, 30, 4) + [all_web(4), round_web(4)]:
            for f in all_tuples(W, W):
                if is_turning(W, f):
                    self.undoes(W, f)
        self.undoes(round_web(24), tuple((k + 5) % 24 for k in range(24)))

    def undoes(self, W, f):
        self.tells(True, is_turning, W, undone(f))
        self.same(behind(f, undone(f)), itself(W))
        for a, b in itertools.product(range(W[0]), repeat=2):
            self.assertEqual((a, b) in W[1], (f[a], f[b]) in W[1])


class Again(Promise):
    def test_by_hand(self):
        f = (1, 2, 0, 0)
        for k, due in [(0, (0, 1, 2, 3)), (1, f), (2, (2, 0, 1, 1)), (3, (0, 1, 2, 2)), (4, (1, 2, 0, 0))]:
            self.tells(due, again, f, k)

    def test_step_by_step(self):
        for n in range(4):
            for f in itertools.product(range(n), repeat=n):
                due = tuple(range(n))
                for k in range(8):
                    self.tells(due, again, f, k)
                    due = tuple(f[x] for x in due)

    def test_great_k(self):
        great = 10 ** 4
        turn = tuple((k + 1) % 24 for k in range(24))
        self.tells(tuple((k + great) % 24 for k in range(24)), again, turn, great)
        self.tells(tuple((k + great - 1) % 24 for k in range(24)), again, turn, great - 1)
        fall = (0,) + tuple(range(23))
        self.tells((0,) * 24, again, fall, great)
        self.tells((0,) * 23 + (1,), again, fall, 22)
        self.tells((), again, (), great)
        self.tells((0,), again, (0,), great)
        # Five places turn, one falls in among them, by 10 ** 4 steps as by 0 or 5.
        self.tells((0, 1, 2, 3, 4, 4), again, (1, 2, 3, 4, 0, 0), great)

    def test_one_time_is_it_and_no_time_is_itself(self):
        chance = random.Random(32)
        for n in range(25):
            f = tuple(chance.randrange(n) for _ in range(n))
            self.tells(f, again, f, 1)
            self.tells(tuple(range(n)), again, f, 0)


class StillNumber(Promise):
    def test_by_hand(self):
        for f, due in [
            ((), 1), ((0,), 1), ((0, 1, 2), 1), ((0, 0, 0), 1), ((1, 0), 2), ((1, 2, 0), 3),
            ((0, 0, 1), 2), ((0, 0, 1, 2), 3), ((1, 0, 0), 2), ((1, 0, 0, 2), 2), ((1, 0, 0, 2, 3), 4),
            ((1, 0, 3, 4, 2), 6),
        ]:
            self.tells(due, still_number, f)

    def test_it_is_the_least_one(self):
        for n in range(5):
            for f in itertools.product(range(n), repeat=n):
                self.tells(self.least(f), still_number, f)

    def least(self, f):
        k, told = 1, f
        while any(told[told[a]] != told[a] for a in range(len(f))):
            k, told = k + 1, tuple(f[x] for x in told)
        return k

    def test_great_ones(self):
        # Rounds of 3, 5, 7 and 8 places, a place over: they meet again first at 840.
        f = []
        for size in (3, 5, 7, 8):
            first = len(f)
            f.extend(first + (k + 1) % size for k in range(size))
        self.tells(840, still_number, tuple(f))
        self.tells(23, still_number, (0,) + tuple(range(23)))
        chance = random.Random(33)
        for _ in range(30):
            f = tuple(chance.randrange(24) for _ in range(24))
            self.tells(self.least(f), still_number, f)

    def test_it_stays_on_what_it_hits(self):
        chance = random.Random(34)
        for _ in range(30):
            f = tuple(chance.randrange(9) for _ in range(9))
            still = again(f, still_number(f))
            self.same(behind(still, still), still)
            for x in still:
                self.assertEqual(still[x], x)


if __name__ == "__main__":
    unittest.main()
