"""Points [61] and [62]: tables of pairs, and their strikes."""

import itertools
import random
import unittest

from helper import (
    JUNK, Promise, all_led, all_webs, first_pairs, nested, pair_strikes, pairs_struck, some_lists, some_web, some_webs,
    spoiled, web,
)
from webintoweb.families import all_web, line_web, round_web, way_web
from webintoweb.leadings import full_lists
from webintoweb.pairclosing import closed_table, first_table, is_strike
from webintoweb.together import paired

VOID, ONE, LOOP = web(0), web(1), web(1, (0, 0))
TIE, R2, R3 = web(2, (0, 1)), round_web(2), round_web(3)


class First(Promise):
    def asked(self, one, other, lists):
        self.tells(first_pairs(one, other, lists), first_table, one, other, lists)

    def test_by_hand(self):
        self.tells((), first_table, VOID, R3, ())
        self.tells((((),),), first_table, ONE, VOID, ((),))
        self.tells(((((0, 0), (2, 2)),),), first_table, ONE, web(3), ((0, 2),))
        self.tells(((((0, 0),),),), first_table, LOOP, web(3, (0, 0), (1, 2)), ((0, 1, 2),))
        self.tells((
            (((0, 0), (1, 1)), ((0, 1), (1, 0))),
            (((0, 1), (1, 0)), ((0, 0), (1, 1))),
        ), first_table, TIE, all_web(2), ((0, 1), (0, 1)))
        self.tells((
            (((0, 0), (1, 1)), ((0, 1),)),
            (((1, 0),), ((0, 0), (1, 1))),
        ), first_table, TIE, line_web(2), ((0, 1), (0, 1)))
        # Ties both ways, and none.
        self.tells(((((0, 0),), ()), ((), ((1, 1),))), first_table, R2, line_web(2), ((0,), (1,)))
        self.tells(((((0, 0),), ((0, 1),)), (((1, 0),), ((1, 1),))), first_table, web(2), line_web(2), ((0,), (1,)))

    def test_all_webs_of_two_places(self):
        for one, other in itertools.product([VOID, ONE, LOOP] + all_webs(2), repeat=2):
            self.asked(one, other, full_lists(one, other))

    def test_lists_of_all_sorts(self):
        chance = random.Random(470)
        for one, other in zip(some_webs(471, 80, 5), some_webs(472, 80, 4)):
            self.asked(one, other, some_lists(chance, one, other, chance.randrange(3, 11)))

    def test_void_lists(self):
        self.tells(((((0, 0),), ()), ((), ())), first_table, web(2), web(2), ((0,), ()))


class Closed(Promise):
    def asked(self, chance, one, other, lists):
        due = first_pairs(one, other, lists)
        while True:
            found = pair_strikes(due, other[0])
            if not found:
                break
            due = pairs_struck(due, chance.choice(found))
        self.tells(due, closed_table, one, other, lists)
        return due

    def test_strikes_in_other_orders(self):
        chance = random.Random(473)
        for one, other in zip(some_webs(474, 40, 4), some_webs(475, 40, 3)):
            lists = some_lists(chance, one, other, chance.randrange(5, 11))
            self.assertEqual(self.asked(chance, one, other, lists), self.asked(chance, one, other, lists))

    def test_all_webs_of_two_places(self):
        chance = random.Random(476)
        for one, other in itertools.product([VOID, ONE, LOOP] + all_webs(2), repeat=2):
            self.asked(chance, one, other, full_lists(one, other))

    def test_by_hand(self):
        self.tells((), closed_table, VOID, R3, ())
        self.tells((((),),), closed_table, ONE, VOID, ((),))
        # A round of three is not led into two places: by pairs nothing is left, though no list is struck.
        self.tells((((),) * 3,) * 3, closed_table, R3, all_web(2), ((0, 1),) * 3)
        # Of a row of two ties both ends are led to one place.
        both, swapped = ((0, 0), (1, 1)), ((0, 1), (1, 0))
        self.tells(((both, swapped, both), (swapped, both, swapped), (both, swapped, both)),
                   closed_table, way_web(">>"), all_web(2), ((0, 1),) * 3)

    def test_a_void_list_leaves_nothing_anywhere(self):
        for lists in [((), (0, 1)), ((0, 1), ())]:
            self.tells((((),) * 2,) * 2, closed_table, web(2), web(2), lists)

    def test_no_leading_is_lost(self):
        chance = random.Random(477)
        for one, other in zip(some_webs(478, 120, 5), some_webs(479, 120, 4)):
            lists = some_lists(chance, one, other, 9)
            table = closed_table(one, other, lists)
            for f in all_led(one, other, lists):
                self.assertTrue(all((f[a], f[b]) in table[a][b] for a in range(one[0]) for b in range(one[0])))

    def test_no_strike_goes_and_both_ways_stand(self):
        chance = random.Random(480)
        for one, other in zip(some_webs(481, 60, 5), some_webs(482, 60, 3)):
            table = closed_table(one, other, some_lists(chance, one, other, 9))
            self.assertEqual(pair_strikes(table, other[0]), [])
            for a, b in itertools.product(range(one[0]), repeat=2):
                self.assertEqual(tuple(sorted((y, x) for x, y in table[a][b])), table[b][a])

    def test_seven_places_into_five(self):
        chance = random.Random(483)
        for thick in (2, 5):
            one, other = some_web(chance, 7, 3), some_web(chance, 5, thick)
            table = self.told(closed_table, one, other, full_lists(one, other))
            self.assertEqual(pair_strikes(table, 5), [])

    def test_great_webs_that_were_told(self):
        great = paired(all_web(8), round_web(8))
        told = closed_table(R2, great, full_lists(R2, great))
        self.assertEqual(told, (((),) * 2,) * 2)
        told = closed_table(TIE, great, full_lists(TIE, great))
        self.assertEqual(told[0][1], great[1])
        told = closed_table(great, ONE, full_lists(great, ONE))
        self.assertEqual(told, (((),) * 64,) * 64)


class Strike(Promise):
    TABLE = first_pairs(R3, all_web(2), ((0, 1),) * 3)

    def test_all_things_that_might_be_one(self):
        chance = random.Random(484)
        for one, other in zip(some_webs(485, 30, 3), some_webs(486, 30, 3)):
            table = first_table(one, other, some_lists(chance, one, other, 9))
            for _ in range(3):
                found = pair_strikes(table, other[0])
                n, m = one[0] + 1, other[0] + 1
                for thing in itertools.product(range(-1, n), range(-1, n), range(-1, m), range(-1, m), range(-1, n)):
                    self.assertIs(is_strike(table, thing), thing in found)
                if found:
                    table = pairs_struck(table, chance.choice(found))

    def test_by_hand(self):
        # 0 led to 0 and 1 led to 1 leave nothing for 2.
        self.tells(True, is_strike, self.TABLE, (0, 1, 0, 1, 2))
        self.tells(True, is_strike, self.TABLE, (1, 0, 1, 0, 2))
        self.tells(False, is_strike, self.TABLE, (0, 1, 0, 1, 1))
        self.tells(False, is_strike, self.TABLE, (0, 1, 0, 1, 0))
        self.tells(False, is_strike, self.TABLE, (0, 1, 0, 0, 2))
        self.tells(False, is_strike, self.TABLE, (0, 0, 0, 0, 1))

    def test_of_tables_that_are_not_the_same_both_ways(self):
        # At 0, 1 stands (0, 1), at 1, 0 nothing: so by 1 there is no way back to 0.
        table = ((((0, 0),), ((0, 1),)), ((), ((1, 1),)))
        self.tells(True, is_strike, table, (0, 0, 0, 0, 1))
        self.tells(False, is_strike, table, (0, 1, 0, 1, 1))
        self.tells(False, is_strike, table, (0, 1, 0, 1, 0))
        self.tells(True, is_strike, table, (1, 1, 1, 1, 0))
        self.tells(False, is_strike, table, (1, 0, 1, 0, 0))

    def test_of_a_table_of_no_places(self):
        for thing in list(JUNK) + [(0, 0, 0, 0, 0), (), (-1, -1, 0, 0, -1)]:
            self.tells(False, is_strike, (), thing)

    def test_things_of_other_kinds(self):
        for thing in list(JUNK) + spoiled((0, 1, 0, 1, 2)) + spoiled((1, 0, 1, 0, 2)) + [
            (0, 1, 0, 1), (0, 1, 0, 1, 2, 2), [0, 1, 0, 1, 2], (0, 1, (0, 1), 2), ((0, 1), (0, 1), 2), nested(99, tuple),
            (0, 1, 0, True, 2), (False, 1, 0, 1, 2), (0, True, 0, 1, 2), (0, 1, False, 1, 2), "01012",
            (0, 1, 0, 1, -1), (-3, 1, 0, 1, 2), (0, -2, 0, 1, 2), (0, 1, 0, 1, 3), (3, 1, 0, 1, 2), (0, 3, 0, 1, 2),
            (0, 1, 0, -1, 2), (0, 1, 2, 1, 2), (0, 1, 0, 2, 2), (0, 1, 10 ** 199, 1, 2), (0, 1, None, 1, 2),
            (0, 1, [0], 1, 2), (0, 1, 0, [1], 2), ([0], 1, 0, 1, 2), (0, 1, 0, 1, [2]), (0, 1, "0", "1", 2),
        ]:
            self.tells(False, is_strike, self.TABLE, thing)
        table = first_pairs(web(2), web(2), ((0, 1), ()))
        self.tells(True, is_strike, table, (0, 0, 1, 1, 1))
        self.tells(False, is_strike, table, (0, 0, 1, 1, True))
        self.tells(False, is_strike, table, (0, 0, True, True, 1))
        self.tells(False, is_strike, table, (0, False, 1, 1, 1))


if __name__ == "__main__":
    unittest.main()
