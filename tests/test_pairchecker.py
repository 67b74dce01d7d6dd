"""Point [62]: pair papers, and their checker."""

import random
import unittest

from helper import (
    JUNK, Promise, all_led, first_pairs, nested, otherwise, pair_strikes, pairs_struck, some_lists, some_web, some_webs,
    spoiled, web,
)
from webintoweb.errors import NoPairs
from webintoweb.families import all_web, line_web, round_web
from webintoweb.leadings import full_lists
from webintoweb.pairchecker import lets_pairs

VOID, ONE, LOOP = web(0), web(1), web(1, (0, 0))
TIE, R2, R3 = web(2, (0, 1)), round_web(2), round_web(3)
FULL = ((0, 1),) * 3
# Two neighbours of a round of three leave nothing for the third one.
PAPER = (((0, 1, 0, 1, 2), (0, 1, 1, 0, 2)), 0, 1)


def pairs_due(one, other, lists, thing):
    """The (number, word) that is due, or None, by the very words of the document."""
    def place(k):
        return isinstance(k, int) and not isinstance(k, bool) and k in range(one[0])

    if not isinstance(thing, tuple) or len(thing) != 3 or not isinstance(thing[0], tuple):
        return (-1, "shape")
    if not place(thing[1]) or not place(thing[2]):
        return (-1, "shape")
    table = first_pairs(one, other, lists)
    for k, strike in enumerate(thing[0]):
        if repr(strike) not in map(repr, pair_strikes(table, other[0])):
            return (k, "strike")
        table = pairs_struck(table, strike)
    return (len(thing[0]), "void") if table[thing[1]][thing[2]] else None


def some_pair_paper(chance, one, other, lists):
    """A pair paper as anyone might write it, or None where the closed table isn't void."""
    table, strikes = first_pairs(one, other, lists), []
    while True:
        void = [(a, b) for a in range(one[0]) for b in range(one[0]) if not table[a][b]]
        found = pair_strikes(table, other[0])
        if void and (not found or strikes and chance.randrange(6) == 0):
            return (tuple(strikes), *chance.choice(void))
        if not found:
            return None
        strikes.append(chance.choice(found))
        table = pairs_struck(table, strikes[-1])


class Asked(Promise):
    def lets(self, one, other, lists, paper):
        self.tells(True, lets_pairs, one, other, lists, paper)
        self.assertIsNone(pairs_due(one, other, lists, paper))
        self.assertEqual(all_led(one, other, lists), [])

    def refused(self, due, one, other, lists, thing):
        self.refuses(NoPairs, due, lets_pairs, one, other, lists, thing)
        self.assertEqual(pairs_due(one, other, lists, thing), due)

    def at_three(self, due, thing):
        self.refused(due, R3, all_web(2), FULL, thing)

    def as_due(self, one, other, lists, thing):
        due = pairs_due(one, other, lists, thing)
        if due is None:
            self.lets(one, other, lists, thing)
        else:
            self.refuses(NoPairs, due, lets_pairs, one, other, lists, thing)
        return due

    def test_let_by(self):
        self.lets(R3, all_web(2), FULL, PAPER)
        # What is taken away at 0, 1 is away at 1, 0, too.
        self.lets(R3, all_web(2), FULL, (PAPER[0], 1, 0))
        self.lets(R3, all_web(2), FULL, (PAPER[0][::-1], 0, 1))
        self.lets(R3, all_web(2), FULL, (((1, 0, 1, 0, 2), (0, 1, 1, 0, 2)), 0, 1))
        self.lets(R3, all_web(2), FULL, (PAPER[0] + ((0, 0, 0, 0, 1), (0, 0, 1, 1, 1)), 0, 0))
        self.lets(web(2), web(2), ((0,), ()), ((), 1, 1))
        self.lets(web(2), web(2), ((0,), ()), ((), 0, 1))
        self.lets(web(2), web(2), ((0,), ()), (((0, 0, 0, 0, 1),), 0, 0))
        self.lets(LOOP, ONE, ((0,),), ((), 0, 0))
        self.lets(ONE, VOID, ((),), ((), 0, 0))
        self.lets(R2, line_web(2), ((0, 1), (0, 1)), ((), 0, 1))

    def test_whoever_wrote_it(self):
        chance = random.Random(490)
        many = 0
        for one, other in zip(some_webs(491, 250, 4), some_webs(492, 250, 3)):
            lists = some_lists(chance, one, other, 8)
            paper = some_pair_paper(chance, one, other, lists)
            if paper:
                self.lets(one, other, lists, paper)
                many += len(paper[0]) > 0
        self.assertGreater(many, 40)

    def test_shape(self):
        for thing in list(JUNK) + [
            (), (PAPER[0],), PAPER[:2], PAPER + (0,), list(PAPER), (list(PAPER[0]), 0, 1), (None, 0, 1), ("", 0, 1),
            (0, 0, 1), (PAPER[0], 3, 1), (PAPER[0], 0, 3), (PAPER[0], -1, 1), (PAPER[0], 0, -1), (PAPER[0], True, 1),
            (PAPER[0], False, 1), (PAPER[0], 0, True), (PAPER[0], "0", 1), (PAPER[0], 0, None), (PAPER[0], (0,), 1),
            (0, 1, PAPER[0]), (None, None, None), nested(99, tuple), ((None,), 0, 3), ((None,), 3, 0),
            (PAPER[0], 10 ** 199, 0),
        ]:
            self.at_three((-1, "shape"), thing)
        for thing in [((), 0, 0), ((), 0, 1), ((),), (), None]:
            self.refused((-1, "shape"), VOID, R3, (), thing)
            self.refused((-1, "shape"), VOID, VOID, (), thing)

    def test_the_first_that_is_no_strike(self):
        right = PAPER[0]
        for strike in [
            None, (), [0, 1, 0, 1, 2], (0, 1, 0, 1), (0, 1, 0, 1, 2, 0), (True, 0, 1, 0, 2), (0, True, 0, 1, 2),
            (0, 1, False, 1, 2), (0, 1, 0, True, 2), (0, 1, 0, 1, 3), (0, 1, 0, 1, -1), (3, 1, 0, 1, 2), (0, 3, 0, 1, 2),
            (0, 1, 2, 1, 2), (0, 1, 0, 2, 2), (0, 1, 0, 0, 2), (0, 1, 0, 1, 0), (0, 1, 0, 1, 1), (0, 0, 0, 0, 1),
            "01012", (0, 1, "0", 1, 2), (0, 1, 0, None, 2), (0, 1, [0], 1, 2), ((0, 1), (0, 1), 2), 5, True, nested(97, list),
        ]:
            self.at_three((0, "strike"), ((strike,), 0, 1))
            self.at_three((0, "strike"), ((strike,) + right, 0, 1))
            self.at_three((0, "strike"), ((strike, None), 0, 0))
            if strike != (0, 0, 0, 0, 1):
                self.at_three((2, "strike"), (right + (strike,), 0, 1))
        # Twice, or at b, a what is away there already.
        self.at_three((1, "strike"), (right[:1] * 2, 0, 1))
        self.at_three((1, "strike"), ((right[0], (1, 0, 1, 0, 2)), 0, 1))
        self.at_three((2, "strike"), (right + right[:1], 0, 1))
        # Of the table as it is by those ahead.
        self.at_three((0, "strike"), (((0, 0, 0, 0, 1),) + right, 0, 0))
        self.at_three((1, "strike"), ((right[0], (0, 0, 1, 1, 1)), 0, 0))

    def test_not_void(self):
        self.at_three((0, "void"), ((), 0, 1))
        self.at_three((1, "void"), (PAPER[0][:1], 0, 1))
        self.at_three((2, "void"), (PAPER[0], 0, 0))
        self.at_three((2, "void"), (PAPER[0], 1, 2))
        self.refused((0, "void"), web(2), web(2), ((0,), ()), ((), 0, 0))
        self.refused((0, "void"), ONE, ONE, ((0,),), ((), 0, 0))

    def test_things_otherwise(self):
        for thing in [PAPER] + spoiled(PAPER):
            self.as_due(R3, all_web(2), FULL, thing)
        chance = random.Random(493)
        words = dict.fromkeys(("shape", "strike", "void"), 0)
        for one, other in zip(some_webs(494, 150, 4), some_webs(495, 150, 3)):
            lists = some_lists(chance, one, other, 9)
            paper = some_pair_paper(chance, one, other, lists)
            for _ in range(12 if paper else 0):
                due = self.as_due(one, other, lists, otherwise(chance, paper))
                if due:
                    words[due[1]] += 1
        self.assertTrue(all(many > 8 for many in words.values()), words)

    def test_where_a_leading_keeps_the_lists_nothing_is_let_by(self):
        chance = random.Random(496)
        for one, other in zip(some_webs(497, 80, 4), some_webs(498, 80, 3)):
            lists = full_lists(one, other)
            if all_led(one, other, lists):
                self.assertIsNone(some_pair_paper(chance, one, other, lists))
                for thing in [((), 0, 0), ((), 0, 1), PAPER, (PAPER[0][:1], 0, 1)]:
                    self.assertIsNotNone(self.as_due(one, other, lists, thing))

    def test_seven_places_into_five(self):
        chance = random.Random(525)
        one, other = some_web(chance, 7, 3), some_web(chance, 5, 4)
        lists = full_lists(one, other)
        table, strikes = first_pairs(one, other, lists), []
        for _ in range(500):
            found = pair_strikes(table, 5)
            if not found:
                break
            strikes.append(found[0])
            table = pairs_struck(table, strikes[-1])
        void = [(a, b) for a in range(7) for b in range(7) if not table[a][b]]
        self.assertTrue(void)
        self.assertGreater(len(strikes), 300)
        self.lets(one, other, lists, (tuple(strikes), *void[0]))


if __name__ == "__main__":
    unittest.main()
