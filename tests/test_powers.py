"""Points [47] and [48]: webs to the power of one another."""

import itertools
import random
import unittest

from helper import Promise, all_led, all_tuples, all_webs, leads, some_web, some_webs, web
from webintoweb.counting import count
from webintoweb.errors import TooMany
from webintoweb.families import all_web, line_web, round_web, way_web
from webintoweb.leadings import full_lists, is_leading
from webintoweb.powers import given_out, number_of, power, taken_in, tuple_of
from webintoweb.together import paired
from webintoweb.webs import is_web, loops

VOID, ONE, LOOP = web(0), web(1), web(1, (0, 0))
TIE = web(2, (0, 1))
SMALL = [VOID, ONE, LOOP] + all_webs(2)


def due_power(V, W):
    tuples = all_tuples(W, V)
    return (len(tuples), tuple(
        (j, k) for j, f in enumerate(tuples) for k, g in enumerate(tuples)
        if all((f[a], g[b]) in V[1] for a, b in W[1])))


def counted(W, V):
    return count(W, V, full_lists(W, V))


class Power(Promise):
    def test_by_hand(self):
        # (0, 0), (0, 1), (1, 0), (1, 1): a tie where the first begins at 0 and the other one ends with 1.
        self.tells(web(4, (0, 1), (0, 3), (1, 1), (1, 3)), power, TIE, TIE)
        self.tells(web(4, (0, 0), (0, 1), (0, 2), (0, 3), (1, 0), (1, 1), (1, 2), (1, 3), (2, 0), (2, 1), (2, 2), (2, 3),
                       (3, 0), (3, 1), (3, 2), (3, 3)), power, web(2), web(2))

    def test_ties_one_by_one(self):
        for V, W in itertools.product(SMALL, repeat=2):
            told = self.told(power, V, W)
            self.same(told, due_power(V, W))
        chance = random.Random(341)
        for v, w in [(3, 3), (3, 2), (2, 5), (4, 2), (2, 4), (5, 1), (1, 6)]:
            V, W = some_web(chance, v, 4), some_web(chance, w, 3)
            self.tells(due_power(V, W), power, V, W)

    def test_by_the_web_without_places(self):
        for V in SMALL + [all_web(3), line_web(8)]:
            self.tells(LOOP, power, V, VOID)

    def test_of_the_web_without_places(self):
        for W in SMALL + [all_web(3), line_web(8)]:
            self.tells(LOOP if W == VOID else VOID, power, VOID, W)

    def test_by_one_place(self):
        for V in SMALL + some_webs(342, 10, 8):
            # Without a loop any two are tied, with one it is the web itself.
            self.tells((V[0], tuple(itertools.product(range(V[0]), repeat=2))), power, V, ONE)
            self.tells(V, power, V, LOOP)

    def test_of_one_place(self):
        for W in SMALL + some_webs(343, 10, 8):
            self.tells(LOOP if not W[1] else ONE, power, ONE, W)
            self.tells(LOOP, power, LOOP, W)

    def test_loops_are_at_the_leadings(self):
        for V, W in itertools.product(SMALL + [all_web(3), round_web(3)], repeat=2):
            due = tuple(number_of(V, W, f) for f in all_led(W, V))
            self.same(loops(power(V, W)), due)

    def test_sixty_four_places_and_more(self):
        for v, w in [(2, 6), (4, 3), (8, 2), (1, 8)]:
            V, W = some_web(random.Random(v), v, 5), way_web(">" * (w - 1))
            told = self.told(power, V, W)
            self.assertTrue(is_web(told))
            self.same(told, due_power(V, W))
            self.assertEqual(told[0], v ** w)
        for v, w in [(2, 7), (3, 4), (5, 3), (8, 3), (2, 8), (8, 8), (4, 4), (7, 8)]:
            self.refuses(TooMany, ("places",), power, all_web(v), round_web(w))
            self.refuses(TooMany, ("places",), power, web(v), web(w))
        great = power(all_web(8), web(2))
        self.tells(great[0], lambda: power(great, LOOP)[0])
        self.refuses(TooMany, ("places",), power, great, web(2))
        self.refuses(TooMany, ("places",), power, web(2), great)
        self.assertEqual(power(ONE, great)[0], 1)


class Numbers(Promise):
    def test_as_they_rise(self):
        for V, W in itertools.product(SMALL + [web(3), all_web(4), line_web(5)], repeat=2):
            for k, f in enumerate(all_tuples(W, V)):
                self.tells(k, number_of, V, W, f)
                self.tells(f, tuple_of, V, W, k)

    def test_where_the_web_is_refused(self):
        V, W = web(5), round_web(4)
        for k, f in enumerate(all_tuples(W, V)):
            self.same(number_of(V, W, f), k)
            self.same(tuple_of(V, W, k), f)
        chance = random.Random(344)
        for _ in range(100):
            v, w = chance.randrange(1, 9), chance.randrange(9)
            V, W = some_web(chance, v, 3), some_web(chance, w, 3)
            f = tuple(chance.randrange(v) for _ in range(w))
            k = self.told(number_of, V, W, f)
            self.assertEqual(k, int("".join(map(str, f)) or "0", v) if v > 1 else 0)
            self.tells(f, tuple_of, V, W, k)
        self.tells(8 ** 8 - 1, number_of, web(8), web(8), (7,) * 8)
        self.tells((7,) * 8, tuple_of, web(8), web(8), 8 ** 8 - 1)
        self.tells((1,) + (0,) * 7, tuple_of, web(8), web(8), 8 ** 7)

    def test_without_places(self):
        for V in (VOID, ONE, all_web(3)):
            self.tells(0, number_of, V, VOID, ())
            self.tells((), tuple_of, V, VOID, 0)


class TakenIn(Promise):
    def test_by_hand(self):
        # (0, 0), (0, 1), (1, 0), (1, 1) are led to 0, 1, 2, 1.
        self.tells((1, 7), taken_in, web(2), web(2), web(3), (0, 1, 2, 1))
        self.tells((0, 1, 2, 1), given_out, web(2), web(2), web(3), (1, 7))

    def test_they_undo_one_another(self):
        for U, W, V in itertools.product([VOID, ONE, LOOP, TIE, all_web(2), web(2, (0, 0), (1, 0))], repeat=3):
            pairs, led_to = paired(U, W), power(V, W)
            ins = [self.told(taken_in, U, W, V, f) for f in all_led(pairs, V)]
            self.assertEqual(sorted(ins), all_led(U, led_to))
            for f, told in zip(all_led(pairs, V), ins):
                self.tells(f, given_out, U, W, V, told)
                self.same(told, tuple(number_of(V, W, f[u * W[0]:(u + 1) * W[0]]) for u in range(U[0])))
            for g in all_led(U, led_to):
                told = self.told(given_out, U, W, V, g)
                self.assertTrue(is_leading(pairs, V, told))
                self.tells(g, taken_in, U, W, V, told)

    def test_without_places(self):
        for U in (VOID, ONE, TIE, round_web(3)):
            self.tells((0,) * U[0], taken_in, U, VOID, TIE, ())
            self.tells((), given_out, U, VOID, TIE, (0,) * U[0])
            self.tells((), taken_in, VOID, U, TIE, ())
            self.tells((), given_out, VOID, U, TIE, ())

    def test_where_the_power_is_refused(self):
        U, W, V = web(2, (0, 1)), round_web(4), all_web(3)
        pairs = paired(U, W)
        self.refuses(TooMany, ("places",), power, V, W)
        for f in all_led(pairs, V)[::97]:
            told = self.told(taken_in, U, W, V, f)
            self.tells(f, given_out, U, W, V, told)
            # What it leads a tie's ends to is tied in the power.
            first, last = (tuple_of(V, W, k) for k in told)
            self.assertTrue(all((first[a], last[b]) in V[1] for a, b in W[1]))
        U, W, V = web(8), web(8), web(8)
        f = tuple((3 * k + k // 8) % 8 for k in range(64))
        self.tells(f, given_out, U, W, V, taken_in(U, W, V, f))

    def test_counts_are_the_same(self):
        chance = random.Random(345)
        for _ in range(60):
            U, W, V = (some_web(chance, chance.randrange(k), 4) for k in (4, 3, 4))
            self.assertEqual(counted(paired(U, W), V), counted(U, power(V, W)))
            self.assertTrue(all(leads(U, power(V, W), f) for f in all_led(U, power(V, W))))


if __name__ == "__main__":
    unittest.main()
