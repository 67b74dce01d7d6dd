"""Point [53]: which webs are below which ones, and which are alike."""

import itertools
import unittest

from helper import Promise, all_led, all_webs, some_webs, web
from webintoweb.families import all_web, line_web, round_web, way_web
from webintoweb.ranks import below_table, classes
from webintoweb.webs import renamed

VOID, ONE, LOOP = web(0), web(1), web(1, (0, 0))
TIE, R2, R3 = web(2, (0, 1)), round_web(2), round_web(3)


def table_due(webs):
    return tuple(tuple(bool(all_led(W, V)) for V in webs) for W in webs)


def classes_due(webs):
    table = table_due(webs)
    groups = [[k for k in range(len(webs)) if table[j][k] and table[k][j]] for j in range(len(webs))]
    return [group for j, group in enumerate(groups) if group[0] == j]


class Ranks(Promise):
    def asked(self, webs):
        self.tells(table_due(webs), below_table, webs)
        self.tells(classes_due(webs), classes, webs)

    def test_of_none(self):
        self.tells((), below_table, ())
        self.tells([], classes, ())

    def test_of_one(self):
        for own in (VOID, ONE, LOOP, R3, line_web(5)):
            self.tells(((True,),), below_table, (own,))
            self.tells([[0]], classes, (own,))

    def test_by_hand(self):
        webs = (R2, VOID, way_web("><>"), LOOP, TIE, web(3, (0, 0), (0, 1)))
        self.tells((
            (True, False, False, True, False, True),
            (True, True, True, True, True, True),
            (True, False, True, True, True, True),
            (False, False, False, True, False, True),
            (True, False, True, True, True, True),
            (False, False, False, True, False, True),
        ), below_table, webs)
        self.tells([[0], [1], [2, 4], [3, 5]], classes, webs)

    def test_one_web_several_times(self):
        self.tells(((True,) * 4,) * 4, below_table, (R3,) * 4)
        self.tells([[0, 1, 2, 3]], classes, (R3,) * 4)
        self.tells([[0, 2, 4], [1, 3, 5]], classes, (R3, R2) * 3)
        self.tells([[0, 1], [2, 3]], classes, (R3, renamed(R3, (2, 1, 0)), R2, R2))

    def test_against_going_through(self):
        for webs in itertools.product([VOID, ONE, LOOP] + all_webs(2)[::3], repeat=2):
            self.asked(webs)
        for webs in zip(*[some_webs(400 + k, 15, 4) for k in range(6)]):
            self.asked(webs)

    def test_webs_of_five_places(self):
        self.asked((all_web(5), round_web(5), line_web(5), way_web(">><>"), web(5), web(5, (4, 4))))

    def test_below_goes_on_through_a_third(self):
        for webs in zip(*[some_webs(410 + k, 30, 3) for k in range(6)]):
            table = below_table(webs)
            for j, k, m in itertools.product(range(6), repeat=3):
                self.assertTrue(table[j][j])
                self.assertTrue(table[j][m] or not (table[j][k] and table[k][m]))

    def test_the_lists_are_the_askers_own(self):
        webs = (R2, TIE, R2)
        first = classes(webs)
        first[0].append(9)
        first[1].clear()
        first.append(first[0])
        second = classes(webs)
        self.same(second, [[0, 2], [1]])
        self.same(classes(webs), [[0, 2], [1]])
        many = classes((R2, R3, VOID, ONE, LOOP, TIE))
        self.assertEqual(len({id(numbers) for numbers in many}), len(many))


if __name__ == "__main__":
    unittest.main()
