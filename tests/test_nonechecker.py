"""Points [28] to [30]: papers that none is led, and their checker."""

import itertools
import random
import unittest

from helper import (
    JUNK, Promise, all_led, all_webs, nested, otherwise, refusal_due, some_lists, some_paper, some_web, some_webs,
    spoiled, web,
)
from webintoweb.errors import NoPaper
from webintoweb.families import all_web, line_web, round_web
from webintoweb.leadings import full_lists
from webintoweb.nonechecker import lets_none

# A round of three into one of two: no strike goes, but by cases both ways come round wrong.
W3, V2 = round_web(3), round_web(2)
FULL = ((0, 1),) * 3
# With 0 led to 0, 1 is led to 1 and 2 to 0, and from there no tie goes to 0.
PART_0 = (((1, 0, 0, "in"), (2, 1, 1, "in"), (0, 0, 2, "in")), ("void", 0))
PART_1 = (((1, 1, 0, "in"), (2, 0, 1, "in"), (0, 1, 2, "in")), ("void", 0))
CASES = ((), ("cases", 0, (PART_0, PART_1)))


class LetBy(Promise):
    def lets(self, W, V, lists, paper):
        self.tells(True, lets_none, W, V, lists, paper)
        self.assertEqual(all_led(W, V, lists), [])
        self.assertIsNone(refusal_due(W, V, lists, paper))

    def test_by_cases(self):
        self.lets(W3, V2, FULL, CASES)
        for a in range(3):
            names = (a, (a + 1) % 3, (a + 2) % 3)
            turned = tuple(
                (tuple((names[b], x, names[c], way) for b, x, c, way in strikes), ("void", names[end[1]]))
                for strikes, end in (PART_0, PART_1))
            self.lets(W3, V2, FULL, ((), ("cases", a, turned)))

    def test_by_strikes_in_other_orders(self):
        W, V, lists = web(3, (0, 1), (1, 2)), web(2), ((0, 1), (0,), (1,))
        strikes = ((0, 0, 1, "out"), (0, 1, 1, "out"), (1, 0, 2, "out"), (2, 1, 1, "in"))
        for order in itertools.permutations(strikes[:3]):
            self.lets(W, V, lists, (order, ("void", 0)))
            self.lets(W, V, lists, (order, ("void", 1)))
        self.lets(W, V, lists, (strikes, ("void", 2)))
        # Behind a void list strikes go on: nothing there has a tie to go to.
        self.lets(W, V, lists, (((1, 0, 2, "out"), (0, 1, 1, "out"), (2, 1, 1, "in"), (0, 0, 1, "out")), ("void", 2)))

    def test_few_strikes_and_more_cases(self):
        lists = ((0,), (0, 1), (0, 1))
        self.lets(W3, V2, lists, PART_0)
        inner = (((0, 0, 2, "in"),), ("void", 0))
        late = (((1, 1, 2, "out"),), ("void", 1))
        other = (((1, 0, 0, "in"),), ("void", 1))
        self.lets(W3, V2, lists, ((), ("cases", 1, (other, ((), ("cases", 2, (inner, late)))))))

    def test_cases_of_one_thing(self):
        W, V = web(2, (0, 1)), web(1)
        end = (((0, 0, 1, "out"),), ("void", 0))
        self.lets(W, V, ((0,), (0,)), ((), ("cases", 0, (end,))))
        self.lets(W, V, ((0,), (0,)), ((), ("cases", 1, (((), ("cases", 0, (end,))),))))

    def test_cases_without_parts_of_a_void_list(self):
        self.lets(web(2), web(2), ((0,), ()), ((), ("cases", 1, ())))
        self.lets(web(2, (0, 1)), web(2), ((0,), (0,)), (((1, 0, 0, "in"),), ("cases", 1, ())))
        self.lets(web(1), web(0), ((),), ((), ("cases", 0, ())))
        self.lets(web(1), web(0), ((),), ((), ("void", 0)))

    def test_void_from_the_start(self):
        self.lets(web(3), all_web(2), ((0,), (), (1,)), ((), ("void", 1)))

    def test_loops(self):
        loop = web(1, (0, 0))
        self.lets(loop, web(1), ((0,),), (((0, 0, 0, "out"),), ("void", 0)))
        self.lets(loop, web(1), ((0,),), (((0, 0, 0, "in"),), ("void", 0)))
        self.lets(loop, V2, ((0, 1),), ((), ("cases", 0, (
            (((0, 0, 0, "out"),), ("void", 0)), (((0, 1, 0, "in"),), ("void", 0))))))
        self.lets(loop, line_web(2), ((0, 1),), (((0, 1, 0, "out"), (0, 0, 0, "out")), ("void", 0)))

    def test_whoever_wrote_it(self):
        chance = random.Random(120)
        many = 0
        for W, V in zip(some_webs(121, 400, 4), some_webs(122, 400, 3)):
            lists = some_lists(chance, W, V, 8)
            if W[0] and not all_led(W, V, lists):
                for _ in range(3):
                    self.lets(W, V, lists, some_paper(chance, W, V, lists))
                many += 1
        self.assertGreater(many, 100)

    def test_seven_places_into_five(self):
        chance = random.Random(123)
        for _ in range(8):
            W, V = some_web(chance, 7, 4), some_web(chance, 5, 3)
            lists = some_lists(chance, W, V, 6)
            if not all_led(W, V, lists):
                self.lets(W, V, lists, some_paper(chance, W, V, lists))


class Deep(Promise):
    """Many cases within one another, of one thing each."""

    W, V, LISTS = web(1, (0, 0)), web(1), ((0,),)
    RIGHT = (((0, 0, 0, "out"),), ("void", 0))

    def within(self, depth, paper):
        for _ in range(depth):
            paper = ((), ("cases", 0, (paper,)))
        return paper

    def test_let_by(self):
        for depth in (1, 2, 28):
            self.tells(True, lets_none, self.W, self.V, self.LISTS, self.within(depth, self.RIGHT))

    def test_refused_with_the_whole_path(self):
        for depth in (1, 2, 28):
            for inner, word, number in [
                (None, "shape", -1), (((), ("void", 0)), "void", 0), (((), ("cases", 0, ())), "parts", 1),
                ((((0, 0, 0, "in"), (0, 0, 0, "out")), ("void", 0)), "strike", 1),
            ]:
                due = ((0,) * depth, word, number)
                self.refuses(NoPaper, due, lets_none, self.W, self.V, self.LISTS, self.within(depth, inner))

    def test_few_calls_stand_within_one_another(self):
        self.assertIs(self.shallow(lets_none, self.W, self.V, self.LISTS, self.within(60, self.RIGHT)), True)
        # As deep as the rows of a desk may write them.
        self.assertIs(self.shallow(lets_none, self.W, self.V, self.LISTS, self.within(540, self.RIGHT)), True)


class Refused(Promise):
    def refused(self, due, W, V, lists, thing):
        self.refuses(NoPaper, due, lets_none, W, V, lists, thing)
        self.assertEqual(refusal_due(W, V, lists, thing), due)

    def at_cases(self, due, thing):
        self.refused(due, W3, V2, FULL, thing)

    def test_no_tuple_of_two(self):
        for thing in list(JUNK) + [
            (), ((),), ((), ("void", 0), ()), [(), ("void", 0)], (("void", 0), ()), "void", ("void", 0),
            ("cases", 0, ()), (("void", 0),), nested(99, tuple),
        ]:
            self.at_cases(((), "shape", -1), thing)

    def test_strikes_that_are_no_tuple(self):
        for strikes in ([], [(0, 0, 1, "out")], None, "", 0, True):
            self.refused(((), "shape", -1), W3, V2, ((), (), ()), (strikes, ("void", 0)))

    def test_strikes_by_kind(self):
        wrong = [
            (), (0, 0, 1), (0, 0, 1, "out", 0), [0, 0, 1, "out"], None, "out", 0, True, (0, 0, 1, "else"),
            (0, 0, 1, "Out"), (0, 0, 1, ""), (0, 0, 1, None), (0, 0, 1, 0), (0, 0, 1, True), (0, 0, 1, ("out",)),
            (0, 0, 1, ["out"]), (True, 0, 1, "out"), (False, 0, 1, "out"), (0, True, 1, "out"), (0, False, 1, "out"),
            (0, 0, True, "out"), (1, 0, False, "in"), ("0", 0, 1, "out"), (0, "0", 1, "out"), (0, 0, "1", "out"),
            (None, 0, 1, "out"), (0, None, 1, "out"), (0, 0, None, "out"), (3, 0, 1, "out"), (0, 2, 1, "out"),
            (0, 0, 3, "out"), (-1, 0, 1, "out"), (0, -1, 1, "out"), (0, 0, -1, "out"), ((0,), 0, 1, "out"),
            (0, 0, 1, "inout"), (0, [0], 1, "out"), ("out", 0, 0, 1), (10 ** 199, 0, 1, "out"),
        ]
        for strike in wrong:
            self.at_cases(((), "shape", -1), ((strike,), ("void", 0)))
            self.at_cases(((), "shape", -1), (((0, 0, 1, "out"), strike), ("void", 0)))
            self.at_cases(((), "shape", -1), ((strike, (0, 0, 1, "out")), CASES[1]))

    def test_ends_by_kind(self):
        for end in [
            (), ("void",), ("void", 0, 0), ("void", 0, ()), ("void", 0, (PART_0, PART_1)), ["void", 0], ("Void", 0),
            ("cases", 0), ("cases",), ("cases", 0, (PART_0, PART_1), ()), ["cases", 0, (PART_0, PART_1)],
            ("cases", 0, [PART_0, PART_1]), ("cases", 0, None), ("cases", 0, 2), ("cases", 0, "xx"),
            ("cases", 3, (PART_0, PART_1)), ("cases", -1, (PART_0, PART_1)), ("cases", True, (PART_0, PART_1)),
            ("cases", False, (PART_0, PART_1)), ("cases", "0", ()), ("cases", None, ()), ("cases", (0,), ()),
            ("void", 3), ("void", -1), ("void", True), ("void", False), ("void", "0"), ("void", None), ("void", (0,)),
            ("void", 10 ** 199), (0, "void"), ("", 0), (None, 0), (True, 0), ("end", 0), ("case", 0, ()),
            None, 0, True, "void", "void 0", ("all",), (("void", 0),), (("void",), 0), (["void"], 0), "vo",
            ("apart", (0,), PART_0, PART_1),
        ]:
            self.at_cases(((), "shape", -1), ((), end))

    def test_of_webs_without_places(self):
        for thing in [((), ("void", 0)), ((), ("cases", 0, ())), ((), ()), (), None]:
            self.refused(((), "shape", -1), web(0), V2, (), thing)
            self.refused(((), "shape", -1), web(0), web(0), (), thing)
        self.refused(((), "shape", -1), web(1), web(0), ((),), (((0, 0, 0, "out"),), ("void", 0)))

    def test_the_first_strike_that_does_not_go(self):
        lists = ((0,), (0, 1), (0, 1))
        right = PART_0[0]
        self.refused(((), "strike", 0), W3, V2, lists, (((1, 1, 0, "in"),) + right, ("void", 0)))
        self.refused(((), "strike", 1), W3, V2, lists, (right[:1] * 2 + right[1:], ("void", 0)))
        self.refused(((), "strike", 1), W3, V2, lists, ((right[0], right[2], right[1]), ("void", 0)))
        self.refused(((), "strike", 3), W3, V2, lists, (right + right[:1], ("void", 0)))
        # No tie of W goes that way.
        self.refused(((), "strike", 0), W3, V2, lists, (((1, 0, 0, "out"),), ("void", 0)))
        self.refused(((), "strike", 0), W3, V2, lists, (((0, 0, 0, "out"),), ("void", 0)))
        self.refused(((), "strike", 0), web(1), V2, ((),), (((0, 0, 0, "in"),) * 500, ("void", 0)))

    def test_lists_that_are_not_void(self):
        for a in range(3):
            self.at_cases(((), "void", a), ((), ("void", a)))
        lists = ((0,), (0, 1), (0, 1))
        self.refused(((), "void", 1), W3, V2, lists, (PART_0[0], ("void", 1)))
        self.refused(((), "void", 2), W3, V2, lists, (PART_0[0], ("void", 2)))
        self.refused(((), "void", 0), W3, V2, lists, (PART_0[0][:2], ("void", 0)))

    def test_as_many_parts_as_the_list_has(self):
        for parts in [(), (PART_0,), (PART_0, PART_1, PART_1), (None,), (None,) * 3]:
            self.at_cases(((), "parts", 2), ((), ("cases", 0, parts)))
        lists = ((0,), (0, 1), ())
        self.refused(((), "parts", 1), W3, V2, lists, ((), ("cases", 0, ())))
        self.refused(((), "parts", 0), W3, V2, lists, ((), ("cases", 2, (None,))))
        # The list is as the strikes leave it.
        self.refused(((), "parts", 1), W3, V2, lists, (((1, 0, 0, "in"),), ("cases", 1, (None, None))))

    def test_within_parts(self):
        for part, word, number in [
            (None, "shape", -1), ([], "shape", -1), (((), ("void", 0)), "void", 0), (((), ("void", 2)), "void", 2),
            (((), ("cases", 0, ())), "parts", 1), (((), ("cases", 1, (PART_0,))), "parts", 2),
            ((((1, True, 0, "in"),), ("void", 0)), "shape", -1), ((((0, 0, 1, "out"),) * 2, ("void", 0)), "strike", 0),
        ]:
            self.at_cases(((0,), word, number), ((), ("cases", 0, (part, PART_1))))
            self.at_cases(((0,), word, number), ((), ("cases", 0, (part, None))))
        self.at_cases(((1,), "strike", 0), ((), ("cases", 0, (PART_0, PART_0))))
        self.at_cases(((0,), "strike", 0), ((), ("cases", 0, (PART_1, PART_0))))
        self.at_cases(((1,), "shape", -1), ((), ("cases", 0, (PART_0, None))))
        self.at_cases(((1,), "void", 1), ((), ("cases", 0, (PART_0, ((), ("void", 1))))))

    def test_the_first_fault_counts(self):
        bad_strike, gone_strike = (0, 0, 1, "up"), (0, 0, 0, "out")
        # Shape ahead of strikes, whatever stands later; strikes ahead of the end; the end ahead of parts.
        self.at_cases(((), "shape", -1), ((gone_strike, bad_strike), ("void", 0)))
        self.at_cases(((), "shape", -1), ((gone_strike,), ("void", 9)))
        self.at_cases(((), "strike", 0), ((gone_strike,), ("void", 0)))
        self.at_cases(((), "strike", 0), ((gone_strike,), ("cases", 0, ())))
        self.at_cases(((), "strike", 0), ((gone_strike,), ("cases", 0, (None, None))))
        self.at_cases(((), "parts", 2), ((), ("cases", 0, (None,))))
        # A part with all that is in it ahead of the next one.
        deep = ((), ("cases", 1, (None, None)))
        self.at_cases(((0, 0), "shape", -1), ((), ("cases", 0, (deep, None))))
        later = ((), ("cases", 0, (PART_0, ((), ("void", 0)))))
        self.at_cases(((0, 1), "void", 0), ((), ("cases", 1, (later, None))))

    def test_paths_are_the_numbers_of_parts(self):
        # Cases of 2 whose list has 1 alone: the part is number 0, not the thing 1.
        lists = ((0, 1), (0, 1), (1,))
        self.refused(((0,), "void", 1), W3, V2, lists, ((), ("cases", 2, (((), ("void", 1)),))))

    def test_things_of_other_kinds_at_any_depth(self):
        nest = ((), ("cases", 2, (CASES, CASES)))
        for W, V, lists, paper in [
            (W3, V2, FULL, CASES), (W3, V2, FULL, ((), ("cases", 1, (
                (((0, 0, 1, "out"), (2, 0, 1, "in"), (2, 1, 0, "out")), ("void", 2)),
                (((0, 1, 1, "out"), (2, 1, 1, "in"), (2, 0, 0, "out")), ("void", 2)))))),
            (W3, V2, FULL, nest),
        ]:
            for thing in [paper] + spoiled(paper):
                due = refusal_due(W, V, lists, thing)
                if due is None:
                    self.tells(True, lets_none, W, V, lists, thing)
                else:
                    self.refuses(NoPaper, due, lets_none, W, V, lists, thing)

    def test_papers_with_things_otherwise(self):
        chance = random.Random(124)
        words = {"shape": 0, "strike": 0, "void": 0, "parts": 0}
        for W, V in zip(some_webs(125, 300, 4), some_webs(126, 300, 3)):
            lists = some_lists(chance, W, V, 8)
            if W[0] and not all_led(W, V, lists):
                paper = some_paper(chance, W, V, lists)
                for _ in range(6):
                    thing = otherwise(chance, paper)
                    due = refusal_due(W, V, lists, thing)
                    if due is None:
                        self.tells(True, lets_none, W, V, lists, thing)
                    else:
                        self.refuses(NoPaper, due, lets_none, W, V, lists, thing)
                        words[due[1]] += 1
        self.assertTrue(all(many > 10 for many in words.values()), words)

    def test_where_a_leading_keeps_the_lists_nothing_is_let_by(self):
        for W, V in itertools.product(all_webs(2), repeat=2):
            lists = full_lists(W, V)
            if all_led(W, V, lists):
                for strikes in [(), ((0, 0, 1, "out"),), ((1, 1, 0, "in"), (0, 1, 1, "out"))]:
                    for end in [("void", 0), ("void", 1), ("cases", 0, ()), ("cases", 1, (CASES, CASES))]:
                        with self.assertRaises(NoPaper):
                            lets_none(W, V, lists, (strikes, end))


if __name__ == "__main__":
    unittest.main()
