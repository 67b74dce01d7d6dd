"""Points [64] and [5]: order webs, into which the least of closed lists is a leading."""

import itertools
import random
import unittest

from helper import Promise, all_led, all_webs, closed_lists, some_lists, some_web, some_webs, web
from webintoweb.families import all_web, line_web, round_web, way_web
from webintoweb.leadings import full_lists
from webintoweb.ordered import is_order_web, least_leading, order_names
from webintoweb.webs import renamed

VOID, ONE, LOOP = web(0), web(1), web(1, (0, 0))
TIE, R2, R3 = web(2, (0, 1)), round_web(2), round_web(3)


def in_order(own):
    """Whether it is an order web, each two ties by the very words of the document."""
    for (x, y), (u, v) in itertools.product(own[1], repeat=2):
        if (x if x < u else u, y if y < v else v) not in own[1]:
            return False
    return True


def some_order_webs(seed, many, most):
    """Order webs of up to most places: ties put in until each two have their lesser one."""
    found = []
    for n, ties in some_webs(seed, many, most):
        ties = set(ties[:4])
        while True:
            more = {(min(x, u), min(y, v)) for (x, y), (u, v) in itertools.product(ties, repeat=2)}
            if more <= ties:
                break
            ties |= more
        found.append((n, tuple(sorted(ties))))
    return found


class OrderWeb(Promise):
    def test_by_hand(self):
        for own in [VOID, ONE, LOOP, TIE, web(2), web(2, (0, 0)), web(2, (0, 0), (0, 1), (1, 0)), line_web(4), web(3, (2, 1)),
                    web(2, (0, 0), (0, 1), (1, 0), (1, 1)), web(3, (0, 1), (2, 2)), way_web(">>"),
                    way_web("><"), way_web("<>"), web(3, (1, 0), (2, 0), (2, 1))]:
            self.tells(True, is_order_web, own)
        for own in [R2, R3, all_web(3), web(3, (0, 1), (1, 0)), web(4, (0, 2), (1, 1)), web(3, (0, 1), (1, 2), (2, 0), (2, 2))]:
            self.tells(False, is_order_web, own)

    def test_against_each_two_ties(self):
        told = []
        for own in all_webs(0) + all_webs(1) + all_webs(2) + all_webs(3) + some_webs(610, 80, 8):
            told.append(in_order(own))
            self.tells(told[-1], is_order_web, own)
        self.assertTrue(told.count(True) > 60 and told.count(False) > 60)
        for own in some_order_webs(611, 60, 8):
            self.tells(True, is_order_web, own)
            for tie in own[1]:
                lesser = (own[0], tuple(other for other in own[1] if other != tie))
                self.tells(in_order(lesser), is_order_web, lesser)

    def test_great_webs(self):
        self.tells(True, is_order_web, line_web(24))
        self.tells(False, is_order_web, all_web(24))
        self.tells(True, is_order_web, way_web(">" * 23))


class Least(Promise):
    def asked(self, one, other, lists):
        due = closed_lists(one, other, lists)
        void = [a for a, places in enumerate(due) if not places]
        found = all_led(one, other, lists)
        if void:
            self.tells(("void", void[0]), least_leading, one, other, lists)
            self.assertEqual(found, [])
        else:
            f = tuple(min(places) for places in due)
            self.tells(("leading", f), least_leading, one, other, lists)
            self.assertIn(f, found)
            # The least of a closed list is the least of all leadings there, too.
            self.assertEqual(f, tuple(min(g[a] for g in found) for a in range(one[0])))
        return bool(void)

    def test_without_places(self):
        for other in (VOID, ONE, LOOP, line_web(3)):
            self.tells(("leading", ()), least_leading, VOID, other, ())
        self.tells(("void", 0), least_leading, R3, VOID, ((),) * 3)

    def test_by_hand(self):
        self.tells(("leading", (0, 1, 2)), least_leading, way_web(">>"), line_web(3), ((0, 1, 2),) * 3)
        self.tells(("leading", (1, 2)), least_leading, TIE, line_web(3), ((1, 2), (0, 1, 2)))
        self.tells(("void", 0), least_leading, way_web(">>"), line_web(2), ((0, 1),) * 3)
        # The first place whose closed list is void: one that hangs on the other ones by no tie stays as it is.
        self.tells(("void", 1), least_leading, web(3, (1, 2), (2, 1)), line_web(3), ((0, 1, 2),) * 3)
        self.tells(("void", 2), least_leading, web(3, (0, 1)), line_web(3), ((0, 1, 2), (0, 1, 2), ()))
        self.tells(("leading", (0, 0)), least_leading, R2, web(2, (0, 0), (0, 1), (1, 0)), ((0, 1),) * 2)
        self.tells(("leading", (1, 0)), least_leading, R2, web(2, (0, 0), (0, 1), (1, 0)), ((1,), (0, 1)))

    def test_all_order_webs_of_two_places(self):
        for one, other in itertools.product([VOID, ONE, LOOP] + all_webs(2), repeat=2):
            if in_order(other):
                for lists in itertools.product([(), (0,), (0, other[0] - 1), (other[0] - 1,)], repeat=one[0]):
                    if other[0] > 1:
                        self.asked(one, other, lists)

    def test_lists_of_all_sorts(self):
        chance = random.Random(612)
        told = []
        for one, other in zip(some_webs(613, 250, 5), some_order_webs(614, 250, 4)):
            told.append(self.asked(one, other, some_lists(chance, one, other, chance.randrange(6, 11))))
        self.assertTrue(told.count(True) > 30 and told.count(False) > 30)

    def test_seven_places_into_five(self):
        chance = random.Random(615)
        for other in some_order_webs(616, 12, 5) + [line_web(5)]:
            one = some_web(chance, 7, 2)
            self.asked(one, other, full_lists(one, other))


class Names(Promise):
    def asked(self, own):
        due = [names for names in itertools.permutations(range(own[0])) if in_order(renamed(own, names))]
        self.tells(due[0] if due else None, order_names, own)
        return bool(due)

    def test_by_hand(self):
        self.tells((), order_names, VOID)
        self.tells((0,), order_names, ONE)
        self.tells((0,), order_names, LOOP)
        self.tells((0, 1), order_names, TIE)
        self.tells((0, 1), order_names, web(2, (1, 0)))
        self.tells(None, order_names, R2)
        self.tells(None, order_names, R3)
        self.tells((2, 1, 0), order_names, web(3, (0, 1), (1, 2), (2, 1), (2, 2)))
        self.tells((1, 2, 0), order_names, web(3, (0, 2), (2, 0), (2, 2)))
        # By these names (0, 1) and (1, 0) have their lesser ones in the loop, which must become 0.
        self.tells((1, 0), order_names, web(2, (0, 1), (1, 0), (1, 1)))

    def test_all_webs_of_three_places(self):
        told = [self.asked(own) for own in all_webs(2) + all_webs(3)]
        self.assertTrue(told.count(True) > 60 and told.count(False) > 60)

    def test_four_places(self):
        chance = random.Random(617)
        told = [self.asked(some_web(chance, 4, chance.randrange(1, 10))) for _ in range(120)]
        told += [self.asked(renamed(own, chance.sample(range(own[0]), own[0]))) for own in some_order_webs(618, 60, 4)]
        self.assertTrue(told.count(True) > 30 and told.count(False) > 30)
        self.tells((0, 1, 2, 3), order_names, line_web(4))


if __name__ == "__main__":
    unittest.main()
