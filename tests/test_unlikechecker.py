"""Point [59]: unlike papers, and their checker."""

import itertools
import random
import unittest

from helper import (
    JUNK, Promise, all_webs, nested, otherwise, refusal_due, some_paper, some_web, some_webs, spoiled, web,
)
from webintoweb.errors import NoPaper
from webintoweb.families import all_web, line_web, round_web, way_web
from webintoweb.leadings import full_lists
from webintoweb.unlikechecker import lets_unlike
from webintoweb.webs import renamed

VOID, ONE, LOOP = web(0), web(1), web(1, (0, 0))
WAYS = ("out", "in", "else")
# Two ties from one place, and two ties on end.
FORK, ROW = web(3, (0, 1), (0, 2)), web(3, (0, 1), (1, 2))
# What 0 is led to has outs, what the others are led to has ins.
STRIKES = ((0, 2, 1, "out"), (1, 0, 0, "in"), (2, 0, 0, "in"))
# With 0 led to 0 both others are led to 1; with 0 led to 1 both to 2.
PART_0 = (((1, 2, 0, "in"), (2, 1, 1, "else"), (2, 2, 0, "in")), ("void", 2))
PART_1 = (((1, 1, 0, "in"), (2, 1, 0, "in"), (1, 2, 2, "else")), ("void", 1))
CASES = (STRIKES, ("cases", 0, (PART_0, PART_1)))


def same_names(one, other):
    """All names by which both are the same, by going through."""
    if one[0] != other[0]:
        return []
    return [f for f in itertools.permutations(range(one[0])) if renamed(one, f) == other]


def are_unlike_counts(one, other):
    return one[0] != other[0] or len(one[1]) != len(other[1])


def led_apart(one, other):
    """Whether some leading of the one into the other has unlike images for unlike places."""
    return any(all((f[a], f[b]) in other[1] for a, b in one[1])
               for f in itertools.permutations(range(other[0]), one[0]))


def unlike_due(one, other, thing):
    if isinstance(thing, tuple) and len(thing) == 1 and thing[0] == "counts":
        return None if are_unlike_counts(one, other) else ((), "counts", -1)
    return refusal_due(one, other, full_lists(one, other), thing, (), WAYS)


class Asked(Promise):
    def lets(self, one, other, paper):
        self.tells(True, lets_unlike, one, other, paper)
        self.assertIsNone(unlike_due(one, other, paper))
        self.assertEqual(same_names(one, other), [])

    def refused(self, due, one, other, thing):
        self.refuses(NoPaper, due, lets_unlike, one, other, thing)
        self.assertEqual(unlike_due(one, other, thing), due)

    def at_fork(self, due, thing):
        self.refused(due, FORK, ROW, thing)

    def as_due(self, one, other, thing):
        due = unlike_due(one, other, thing)
        if due is None:
            self.lets(one, other, thing)
        else:
            self.refuses(NoPaper, due, lets_unlike, one, other, thing)
        return due


class LetBy(Asked):
    def test_by_cases(self):
        self.lets(FORK, ROW, CASES)

    def test_by_counts(self):
        for one, other in [(VOID, ONE), (ONE, VOID), (ONE, LOOP), (LOOP, ONE), (FORK, all_web(3)), (web(2), web(3)),
                           (web(2, (0, 1)), FORK), (web(4, (0, 1), (2, 3)), FORK)]:
            self.lets(one, other, ("counts",))
            self.lets(other, one, ("counts",))

    def test_by_counts_of_places_alone_or_of_ties_alone(self):
        self.lets(web(2, (0, 1)), web(3, (0, 1)), ("counts",))
        self.lets(web(3, (0, 1)), web(3, (0, 1), (1, 0)), ("counts",))

    def test_papers_where_counts_are_unlike_too(self):
        # More places than there are to be led to: the last one is left without any.
        self.lets(web(2), ONE, (((0, 0, 1, "else"),), ("void", 0)))
        self.lets(web(2), ONE, (((1, 0, 0, "else"),), ("cases", 1, ())))
        self.lets(LOOP, ONE, (((0, 0, 0, "out"),), ("void", 0)))
        self.lets(ONE, VOID, ((), ("void", 0)))

    def test_else_behind_strikes_and_cases(self):
        # A round of four and two rounds of two: by going out alone it would be led.
        one, other = round_web(4), web(4, (0, 1), (1, 0), (2, 3), (3, 2))
        self.assertEqual(same_names(one, other), [])
        chance = random.Random(440)
        for _ in range(20):
            self.lets(one, other, some_paper(chance, one, other, full_lists(one, other), WAYS))

    def test_whoever_wrote_it(self):
        chance = random.Random(441)
        many = third = 0
        for one in all_webs(2) + some_webs(442, 120, 4):
            for other in [some_web(chance, one[0], chance.randrange(1, 9)) for _ in range(2)]:
                if one[0] and not led_apart(one, other):
                    paper = some_paper(chance, one, other, full_lists(one, other), WAYS)
                    self.lets(one, other, paper)
                    many += 1
                    third += "else" in repr(paper)
        self.assertGreater(many, 100)
        self.assertGreater(third, 40)

    def test_webs_of_five_places(self):
        chance = random.Random(443)
        one, other = round_web(5), web(5, (0, 1), (1, 2), (2, 0), (3, 4), (4, 3))
        self.lets(one, other, some_paper(chance, one, other, full_lists(one, other), WAYS))

    def test_few_calls_stand_within_one_another(self):
        paper = (((0, 0, 1, "else"),), ("void", 0))
        for _ in range(28):
            paper = ((), ("cases", 0, (paper,)))
        self.assertIs(self.shallow(lets_unlike, web(2), ONE, paper), True)


class Refused(Asked):
    def test_counts_that_are_like(self):
        for one, other in [(VOID, VOID), (ONE, ONE), (FORK, ROW), (FORK, FORK), (ROW, web(3, (0, 0), (1, 1)))]:
            self.refused(((), "counts", -1), one, other, ("counts",))

    def test_counts_by_kind(self):
        for thing in [["counts"], ("counts", 0), ("counts", ()), ("Counts",), "counts", ("count",), (("counts",),),
                      ((), ("counts",)), ("counts", "counts")]:
            self.at_fork(((), "shape", -1), thing)
            self.refused(((), "shape", -1), ONE, LOOP, thing)
            self.refused(((), "shape", -1), VOID, ONE, thing)

    def test_shape(self):
        for thing in list(JUNK) + [
            (), ((),), ((), ("void", 0), ()), [(), ("void", 0)], "void", ("void", 0), nested(99, tuple), ("same", (0, 1, 2)),
            ((), ("all",)), ((), ("void", 3)), ((), ("void", True)), ([], ("void", 0)), ((), ["void", 0]),
            ((), ("cases", 0, [PART_0, PART_1])), ((), ("cases", 0)), ((), None), ((), ("apart", (0,), PART_0, PART_1)),
        ]:
            self.at_fork(((), "shape", -1), thing)

    def test_strikes_by_kind(self):
        for strike in [
            (0, 2, 1, "Else"), (0, 2, 1, "else "), (0, 2, 1, "elsewhere"), (0, 2, 1, ""), (0, 2, 1, None), (0, 2, 1, 0),
            (0, 2, 1, ("else",)), (0, 2, 1, ["else"]), (0, 2, True, "else"), (False, 2, 1, "else"), (0, True, 1, "else"),
            (3, 2, 1, "else"), (0, 3, 1, "else"), (0, 2, 3, "else"), (-1, 2, 1, "else"), (0, -1, 1, "else"),
            (0, 2, -1, "else"), ("0", 2, 1, "else"), (0, 2, "else"), (0, 2, 1, "else", 0), [0, 2, 1, "else"], "else", None,
        ]:
            self.at_fork(((), "shape", -1), ((strike,), ("void", 0)))
            self.at_fork(((), "shape", -1), (STRIKES + (strike,), CASES[1]))

    def test_else_goes_where_the_other_list_has_it_alone(self):
        one, other = web(3), web(3)
        cases = ((), ("cases", 0, ((((1, 0, 0, "else"),), ("void", 1)),) + (None,) * 2))
        self.refused(((0,), "void", 1), one, other, cases)
        for strikes, k in [
            # The other list has more, or another thing; the thing is gone from its own list.
            (((1, 0, 2, "else"),), 0), (((1, 1, 0, "else"),), 0), (((1, 0, 0, "else"), (1, 0, 0, "else")), 1),
            (((1, 0, 0, "else"), (2, 0, 0, "else"), (2, 0, 1, "else")), 2),
            # Behind it the other list is less by one, not of one thing.
            (((1, 0, 0, "else"), (2, 1, 1, "else")), 1),
        ]:
            thing = ((), ("cases", 0, ((strikes, ("void", 1)),) + (None,) * 2))
            self.refused(((0,), "strike", k), one, other, thing)

    def test_else_of_a_place_and_itself_never_goes(self):
        for a, x in itertools.product(range(3), repeat=2):
            self.at_fork(((), "strike", 0), (((a, x, a, "else"),), ("void", a)))
        # Though its list has this thing alone.
        thing = ((), ("cases", 0, ((((0, 0, 0, "else"),), ("void", 0)), None, None)))
        self.at_fork(((0,), "strike", 0), thing)
        self.refused(((), "strike", 0), ONE, ONE, (((0, 0, 0, "else"),), ("void", 0)))
        self.refused(((), "strike", 0), LOOP, LOOP, (((0, 0, 0, "else"),), ("void", 0)))
        self.refused(((), "strike", 1), web(2), ONE, (((0, 0, 1, "else"), (1, 0, 1, "else")), ("void", 0)))

    def test_else_of_a_void_list(self):
        # The first is void by now, so its list has nothing alone.
        self.refused(((), "strike", 1), web(2), ONE, (((0, 0, 1, "else"), (1, 0, 0, "else")), ("void", 0)))

    def test_else_is_no_way_of_a_tie(self):
        # A tie without a place to go to is struck by out, not by else.
        self.at_fork(((), "strike", 0), (((0, 2, 1, "else"),), ("void", 0)))
        self.at_fork(((), "strike", 0), (((1, 0, 0, "else"),), ("void", 0)))

    def test_as_the_none_checker_tells(self):
        self.at_fork(((), "void", 1), ((), ("void", 1)))
        self.at_fork(((), "parts", 3), ((), ("cases", 0, (PART_0, PART_1))))
        self.at_fork(((), "parts", 2), (STRIKES, ("cases", 0, (PART_0,))))
        self.at_fork(((0,), "strike", 0), (STRIKES, ("cases", 0, (PART_1, PART_1))))
        self.at_fork(((1,), "strike", 1), (STRIKES, ("cases", 0, (PART_0, (PART_1[0][:1] * 2, ("void", 1))))))
        self.at_fork(((1,), "shape", -1), (STRIKES, ("cases", 0, (PART_0, None))))
        self.at_fork(((1,), "void", 2), (STRIKES, ("cases", 0, (PART_0, (PART_1[0], ("void", 2))))))
        self.at_fork(((0,), "void", 1), (STRIKES, ("cases", 0, ((PART_0[0], ("void", 1)), None))))
        # The word "counts" is due at the thing itself alone.
        self.at_fork(((0,), "shape", -1), (STRIKES, ("cases", 0, (("counts",), PART_1))))

    def test_webs_that_are_the_same(self):
        chance = random.Random(444)
        for one in all_webs(2) + some_webs(445, 60, 4):
            names = list(range(one[0]))
            chance.shuffle(names)
            other = renamed(one, tuple(names))
            for thing in [("counts",), CASES, PART_0, (((0, 0, 1, "else"),), ("void", 0)), ((), ("void", 0)),
                          ((), ("cases", 0, (PART_0,) * one[0]))]:
                self.assertIsNotNone(self.as_due(one, other, thing))

    def test_things_otherwise(self):
        for thing in [CASES] + spoiled(CASES) + spoiled(("counts",)):
            self.as_due(FORK, ROW, thing)
            self.as_due(ROW, FORK, thing)
        chance = random.Random(446)
        words = dict.fromkeys(("shape", "strike", "void", "parts"), 0)
        for one in some_webs(447, 150, 4):
            other = some_web(chance, one[0], 4)
            if one[0] and not led_apart(one, other):
                paper = some_paper(chance, one, other, full_lists(one, other), WAYS)
                for _ in range(6):
                    due = self.as_due(one, other, otherwise(chance, paper))
                    if due:
                        words[due[1]] += 1
        self.assertTrue(all(many > 8 for many in words.values()), words)

    def test_rows_and_lines(self):
        self.refused(((), "counts", -1), line_web(2), way_web(">"), ("counts",))


if __name__ == "__main__":
    unittest.main()
