"""Point [60]: whether two webs are the same up to names."""

import itertools
import random
import unittest

from helper import Promise, all_webs, some_web, some_webs, web
from webintoweb.families import all_web, line_web, round_web, way_web
from webintoweb.sames import same_told
from webintoweb.unlikechecker import lets_unlike
from webintoweb.webs import backwards, renamed

VOID, ONE, LOOP = web(0), web(1), web(1, (0, 0))


class Sames(Promise):
    def asked(self, one, other):
        told = self.told(same_told, one, other)
        self.assertTrue(isinstance(told, tuple) and len(told) == 2)
        due = [f for f in itertools.permutations(range(one[0])) if one[0] == other[0] and renamed(one, f) == other]
        if told[0] == "same":
            self.assertIn(told[1], due)
            self.same(told[1], tuple(told[1]))
        else:
            self.assertEqual((told[0], due), ("unlike", []))
            self.assertIs(lets_unlike(one, other, told[1]), True)
        return told[0]

    def test_small_webs(self):
        for one, other in itertools.product([VOID, ONE, LOOP] + all_webs(2), repeat=2):
            self.asked(one, other)

    def test_webs_of_three_places(self):
        chance = random.Random(460)
        for one in all_webs(3)[::7]:
            self.asked(one, chance.choice(all_webs(3)))
            self.asked(one, backwards(one))

    def test_by_hand(self):
        self.tells(("same", ()), same_told, VOID, VOID)
        self.tells(("same", (0,)), same_told, LOOP, LOOP)
        self.tells(("unlike", ("counts",)), same_told, ONE, LOOP)
        self.tells(("unlike", ("counts",)), same_told, ONE, VOID)
        self.tells(("unlike", ("counts",)), same_told, web(2, (0, 1)), web(3, (0, 1)))
        self.tells(("same", (2, 1, 0)), same_told, line_web(3), backwards(line_web(3)))
        for one, other, word in [
            (web(3, (0, 1), (0, 2)), web(3, (0, 1), (1, 2)), "unlike"),
            (round_web(4), web(4, (0, 1), (1, 0), (2, 3), (3, 2)), "unlike"),
            (round_web(5), web(5, (0, 2), (2, 4), (4, 1), (1, 3), (3, 0)), "same"),
            (round_web(5), web(5, (0, 1), (1, 2), (2, 0), (3, 4), (4, 3)), "unlike"),
            (web(5, (0, 0), (1, 1)), web(5, (0, 0), (0, 1)), "unlike"), (way_web(">><>"), way_web("<><<"), "same"),
            (way_web(">><>"), way_web("><>>"), "unlike"), (all_web(5), all_web(5), "same"), (web(5), web(5), "same"),
        ]:
            self.assertEqual(self.asked(one, (other[0], tuple(sorted(other[1])))), word)

    def test_renamed(self):
        chance = random.Random(461)
        for one in some_webs(462, 60, 5) + [all_web(5), round_web(5), way_web("><><"), web(5)]:
            names = list(range(one[0]))
            chance.shuffle(names)
            self.assertEqual(self.asked(one, renamed(one, tuple(names))), "same")

    def test_as_many_ties(self):
        chance = random.Random(463)
        words = []
        pairs = list(itertools.product(range(5), repeat=2))
        for _ in range(60):
            many = chance.randrange(1, 25)
            one, other = (web(5, *sorted(chance.sample(pairs, many))) for _ in range(2))
            words.append(self.asked(one, other))
        self.assertGreater(words.count("unlike"), 20)

    def test_led_onto_places_but_not_the_same(self):
        # All ties are led to ties by some names, but the other one has more of them.
        one = some_web(random.Random(464), 5, 3)
        other = (5, tuple(sorted(set(one[1]) | {(0, 0), (4, 4), (2, 3)})))
        self.assertEqual(self.asked(one, other), "unlike" if len(other[1]) != len(one[1]) else "same")
        self.assertEqual(self.asked(other, one), "unlike" if len(other[1]) != len(one[1]) else "same")


if __name__ == "__main__":
    unittest.main()
