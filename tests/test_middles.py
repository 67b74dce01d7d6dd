"""Point [65]: middles of webs, and lists that fit them."""

import itertools
import random
import unittest

from helper import (
    JUNK, Promise, all_webs, fits, is_middle_of, nested, some_fitting, some_middle, some_webs, spoiled, web,
)
from webintoweb.families import all_web, line_web, round_web, way_web
from webintoweb.leadings import full_lists
from webintoweb.middles import by_likeness, by_numbers, is_middle, lists_fit

VOID, ONE, LOOP = web(0), web(1), web(1, (0, 0))
TIE, R2, R3 = web(2, (0, 1)), round_web(2), round_web(3)
# Of two places there is one table alone in which two of three count.
OF_TWO = (((0, 0), (0, 1)), ((0, 1), (1, 1)))


def with_one(m, x, y, z, told):
    """The table with told for x, y, z."""
    row = m[x][y][:z] + (told,) + m[x][y][z + 1:]
    rows = m[x][:y] + (row,) + m[x][y + 1:]
    return m[:x] + (rows,) + m[x + 1:]


class Middle(Promise):
    def test_by_hand(self):
        self.tells(True, is_middle, VOID, ())
        for own in (ONE, LOOP):
            self.tells(True, is_middle, own, (((0,),),))
        # Of two places each web has it.
        for own in all_webs(2):
            self.tells(True, is_middle, own, OF_TWO)
        self.tells(True, is_middle, line_web(4), by_numbers(4))
        self.tells(True, is_middle, way_web("><>"), by_numbers(4))
        self.tells(False, is_middle, all_web(3), by_numbers(3))
        self.tells(False, is_middle, all_web(3), by_likeness(3))
        self.tells(True, is_middle, R3, by_likeness(3))
        self.tells(False, is_middle, R3, by_numbers(3))
        self.tells(True, is_middle, line_web(3), by_likeness(3))
        self.tells(False, is_middle, line_web(4), by_likeness(4))
        self.tells(True, is_middle, line_web(2), by_likeness(2))

    def test_of_any_table_by_kind(self):
        chance = random.Random(620)
        told = []
        for own in all_webs(0) + all_webs(1) + all_webs(2) + all_webs(3) + some_webs(621, 150, 4):
            for m in [some_middle(chance, own[0]), by_numbers(own[0]), by_likeness(own[0])]:
                told.append(is_middle_of(own, m))
                self.tells(told[-1], is_middle, own, m)
        self.assertTrue(told.count(True) > 100 and told.count(False) > 100)

    def test_one_place_otherwise_anywhere(self):
        for own, m in some_fitting(622, 25, 3) + [(line_web(3), by_numbers(3)), (R3, by_likeness(3))]:
            for x, y, z in itertools.product(range(own[0]), repeat=3):
                for told in range(own[0]):
                    other = with_one(m, x, y, z, told)
                    self.tells(is_middle_of(own, other), is_middle, own, other)
                    if told != m[x][y][z] and len({x, y, z}) < 3:
                        self.tells(False, is_middle, own, other)
                for told in (-1, own[0], True, False, None, str(m[x][y][z]), (m[x][y][z],), 10 ** 199):
                    self.tells(False, is_middle, own, with_one(m, x, y, z, told))

    def test_a_web_without_ties_has_all(self):
        chance = random.Random(623)
        for n in range(6):
            self.tells(True, is_middle, web(n), some_middle(chance, n))

    def test_things_of_other_kinds(self):
        for own in (VOID, ONE, LOOP, TIE, R3, web(3)):
            for thing in list(JUNK) + [nested(99, tuple), by_numbers(own[0] + 1), by_numbers(own[0] + 2), [], "ab",
                                       list(by_numbers(own[0])), by_numbers(own[0]) + ((),), ((),) * own[0] + ((),)]:
                self.tells(False, is_middle, own, thing)
            if own[0]:
                self.tells(False, is_middle, own, by_numbers(own[0] - 1))
                for m in spoiled(by_numbers(own[0])):
                    self.tells(False, is_middle, own, m)
        self.tells(False, is_middle, VOID, (None,))
        self.tells(False, is_middle, ONE, (((False,),),))
        self.tells(False, is_middle, ONE, ([[0]],))
        self.tells(False, is_middle, ONE, (([0],),))
        self.tells(False, is_middle, TIE, (((0, 0), (0, True)), ((0, 1), (1, 1))))
        self.tells(False, is_middle, TIE, (((0, 0), (False, 1)), ((0, 1), (1, 1))))
        self.tells(False, is_middle, TIE, (((0, 0), [0, 1]), ((0, 1), (1, 1))))

    def test_counts_within(self):
        m = by_numbers(2)
        for thing in [m[:1], m + m[:1], (m[0][:1], m[1]), (m[0], m[1] + m[1][:1]), (m[0], (m[1][0], m[1][1][:1])),
                      (m[0], (m[1][0] + (0,), m[1][1])), (m[0], (m[1][0], ())), (m[0], ())]:
            self.tells(False, is_middle, TIE, thing)

    def test_eight_places(self):
        self.tells(True, is_middle, line_web(8), by_numbers(8))
        self.tells(True, is_middle, round_web(8), by_likeness(8))
        self.tells(False, is_middle, all_web(8), by_likeness(8))


class Fit(Promise):
    def test_by_hand(self):
        numbers, likeness = by_numbers(4), by_likeness(4)
        self.tells(True, lists_fit, (), ())
        self.tells(True, lists_fit, numbers, ())
        self.tells(True, lists_fit, numbers, ((), (), ()))
        self.tells(True, lists_fit, (), ((), ()))
        for places in itertools.chain.from_iterable(itertools.combinations(range(4), k) for k in range(5)):
            self.tells(True, lists_fit, numbers, (places,))
            self.tells(True, lists_fit, likeness, ((), places, (0,)))
        # The middle of 0, 1 and 3 is 2 here: a list with the three must have it.
        other = with_one(numbers, 0, 1, 3, 2)
        self.tells(False, lists_fit, other, ((0, 1, 3),))
        self.tells(False, lists_fit, other, ((0,), (), (0, 1, 3)))
        self.tells(True, lists_fit, other, ((0, 1), (1, 3), (0, 3), (0, 1, 2, 3), (0, 1, 2)))

    def test_lists_of_all_sorts(self):
        chance = random.Random(624)
        told = []
        for own in some_webs(625, 200, 5):
            m = some_middle(chance, own[0])
            lists = tuple(tuple(x for x in range(own[0]) if chance.randrange(10) < 7) for _ in range(chance.randrange(4)))
            told.append(fits(m, lists))
            self.tells(told[-1], lists_fit, m, lists)
            self.tells(True, lists_fit, m, full_lists(own, own))
            self.tells(True, lists_fit, m, tuple((x,) for x in range(own[0])))
        self.assertTrue(told.count(True) > 30 and told.count(False) > 30)


class Tables(Promise):
    def test_by_their_own_rules(self):
        for n in range(9):
            numbers, likeness = self.told(by_numbers, n), self.told(by_likeness, n)
            for x, y, z in itertools.product(range(n), repeat=3):
                self.assertEqual(numbers[x][y][z], sorted((x, y, z))[1])
                self.assertEqual(likeness[x][y][z], y if y == z else x)
            for m in (numbers, likeness):
                self.tells(True, is_middle, web(n), m)
                self.assertEqual((len(m), {len(rows) for rows in m}), (n, {n} if n else set()))

    def test_by_hand(self):
        self.tells((), by_numbers, 0)
        self.tells((), by_likeness, 0)
        self.tells((((0,),),), by_numbers, 1)
        self.tells((((0,),),), by_likeness, 1)
        self.tells(OF_TWO, by_numbers, 2)
        self.tells(OF_TWO, by_likeness, 2)
        self.assertEqual((by_numbers(3)[2][0][1], by_likeness(3)[2][0][1], by_likeness(3)[2][0][0]), (1, 2, 0))


if __name__ == "__main__":
    unittest.main()
