"""Point [27]: closed lists and closings."""

import itertools
import random
import unittest

from helper import Promise, all_led, all_webs, going, some_lists, some_webs, strike_goes, web, without
from webintoweb.closing import closed, closing_of
from webintoweb.families import all_web, line_web, round_web, way_web
from webintoweb.leadings import full_lists

VOID = web(0)


def sublists(lists):
    """All lists within the lists."""
    rows = [
        [row for size in range(len(places) + 1) for row in itertools.combinations(places, size)] for places in lists
    ]
    return list(itertools.product(*rows))


def some_asked(seed, many, most_w, most_v):
    chance = random.Random(seed)
    for W, V in zip(some_webs(seed + 1, many, most_w), some_webs(seed + 2, many, most_v)):
        yield chance, W, V, some_lists(chance, W, V, chance.randrange(5, 11))


class Closed(Promise):
    def test_by_hand(self):
        W, V = way_web(">>"), web(4, (0, 1), (1, 2), (2, 3))
        self.tells(((0, 1), (1, 2), (2, 3)), closed, W, V, full_lists(W, V))
        self.tells(((1,), (2,), (3,)), closed, W, V, ((1, 3), (0, 1, 2, 3), (0, 1, 2, 3)))
        self.tells(((), (), ()), closed, W, V, ((3,), (0, 1, 2, 3), (0, 1, 2, 3)))
        self.tells(((), ()), closed, web(2, (0, 1)), web(2), ((0, 1), (0, 1)))
        self.tells(((0, 1), ()), closed, web(2, (1, 1)), web(2, (0, 1)), ((0, 1), (0, 1)))

    def test_without_places(self):
        self.tells((), closed, VOID, all_web(3), ())
        self.tells((), closing_of, VOID, all_web(3), ())
        self.tells(((), ()), closed, web(2, (0, 1)), VOID, ((), ()))
        self.tells((), closing_of, web(2, (0, 1)), VOID, ((), ()))

    def test_a_void_list_voids_what_hangs_on_it_by_ties(self):
        W = web(4, (0, 1), (2, 1))
        self.tells(((), (), (), (0, 1)), closed, W, all_web(2), ((), (0, 1), (0, 1), (0, 1)))

    def test_loops(self):
        V = web(4, (0, 0), (1, 2), (2, 1), (3, 0))
        self.tells(((0, 1, 2),), closed, web(1, (0, 0)), V, ((0, 1, 2, 3),))
        self.tells(((),), closed, web(1, (0, 0)), V, ((1, 3),))

    def test_they_are_the_greatest_closed_ones_within(self):
        for chance, W, V, lists in some_asked(80, 60, 3, 3):
            shut = [inner for inner in sublists(lists) if not going(W, V, inner)]
            due = tuple(tuple(x for x in lists[a] if any(x in inner[a] for inner in shut)) for a in range(W[0]))
            self.assertIn(due, shut)
            self.tells(due, closed, W, V, lists)

    def test_the_same_in_whatever_order(self):
        for chance, W, V, lists in some_asked(90, 60, 5, 4):
            due = self.told(closed, W, V, lists)
            for _ in range(3):
                now = lists
                while going(W, V, now):
                    now = without(now, chance.choice(going(W, V, now)))
                self.same(due, now)

    def test_every_leading_keeps_them(self):
        for chance, W, V, lists in some_asked(100, 80, 4, 3):
            self.assertEqual(all_led(W, V, closed(W, V, lists)), all_led(W, V, lists))

    def test_all_webs_of_two_places(self):
        for W, V in itertools.product(all_webs(2), repeat=2):
            told = closed(W, V, full_lists(W, V))
            self.assertEqual(going(W, V, told), [])
            self.same(closed(W, V, told), told)


class Closing(Promise):
    def strike_by_strike(self, W, V, lists):
        strikes = self.told(closing_of, W, V, lists)
        now = lists
        for strike in strikes:
            self.assertTrue(strike_goes(W, V, now, strike))
            now = without(now, strike)
        self.assertEqual(going(W, V, now), [])
        self.tells(now, closed, W, V, lists)
        self.tells((), closing_of, W, V, now)
        self.same(type(strikes), tuple)
        for strike in strikes:
            self.assertEqual([type(thing) for thing in strike], [int, int, int, str])
            self.assertEqual(type(strike), tuple)

    def test_strike_by_strike(self):
        for chance, W, V, lists in some_asked(110, 120, 5, 4):
            self.strike_by_strike(W, V, lists)

    def test_where_it_hangs_on_a_later_strike(self):
        # Struck from the far end on: what goes first is looked at last.
        for text in (">" * 6, "<" * 6, "><<>><"):
            W, V = way_web(text), way_web(text[:-1])
            self.strike_by_strike(W, V, full_lists(W, V))

    def test_closed_lists_have_a_closing_without_strikes(self):
        self.tells((), closing_of, all_web(3), all_web(3), ((0, 1, 2),) * 3)
        self.tells((), closing_of, all_web(4), all_web(3), ((0, 1, 2),) * 4)
        self.tells((), closing_of, web(2), web(2), ((0,), ()))

    def test_sixteen_places(self):
        for W, V in [
            (line_web(16), line_web(15)), (line_web(16), line_web(16)), (round_web(16), line_web(16)),
            (way_web(">" * 15), line_web(15)), (all_web(16), all_web(15)),
        ]:
            lists = full_lists(W, V)
            strikes = closing_of(W, V, lists)
            now = [set(places) for places in lists]
            for a, x, b, way in strikes:
                self.assertIn(x, now[a])
                self.assertIn((a, b) if way == "out" else (b, a), W[1])
                self.assertFalse([y for y in now[b] if ((x, y) if way == "out" else (y, x)) in V[1]])
                now[a].discard(x)
            self.same(closed(W, V, lists), tuple(tuple(sorted(places)) for places in now))
        self.same(closed(line_web(16), line_web(15), full_lists(line_web(16), line_web(15))), ((),) * 16)
        self.same(closed(line_web(16), line_web(16), full_lists(line_web(16), line_web(16))),
                  tuple((k,) for k in range(16)))
        self.same(closed(all_web(16), all_web(15), full_lists(all_web(16), all_web(15))),
                  full_lists(all_web(16), all_web(15)))


if __name__ == "__main__":
    unittest.main()
