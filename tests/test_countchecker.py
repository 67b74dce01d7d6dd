"""Points [41] to [43]: count papers, and their checker."""

import itertools
import random
import unittest

from helper import (
    JUNK, Promise, all_led, all_webs, count_due, going, nested, otherwise, put, some_lists, some_web, some_webs, spoiled,
    web, without,
)
from webintoweb.countchecker import counted_by
from webintoweb.errors import NoPaper
from webintoweb.families import all_web, line_web, round_web, way_web
from webintoweb.leadings import full_lists
from webintoweb.webs import pieces

ALL = ((), ("all",))
VOID = web(0)
# A tie, led where 0 has ties to 0 and 1, and 1 has one to 2.
TIE, V3 = web(2, (0, 1)), web(3, (0, 0), (0, 1), (1, 2))
FULL = ((0, 1, 2),) * 2
# With 0 led to 0, 1 is led to 0 or 1; to 1, to 2; to 2, nowhere.
PART_0 = (((1, 2, 0, "in"),), ("all",))
PART_1 = (((1, 0, 0, "in"), (1, 1, 0, "in")), ("all",))
PART_2 = (((0, 2, 1, "out"),), ("void", 0))
CASES = ((), ("cases", 0, (PART_0, PART_1, PART_2)))
# Two ties side by side.
TWO = web(4, (0, 1), (2, 3))
TWO_FULL = ((0, 1, 2),) * 4
APART = ((), ("apart", (0, 1), CASES, CASES))


def some_count_paper(chance, W, V, lists, left=12):
    """A count paper as anyone might write it, with at most left more numbers in its paths."""
    strikes = []
    while going(W, V, lists) and chance.randrange(3):
        strikes.append(chance.choice(going(W, V, lists)))
        lists = without(lists, strikes[-1])
    open_places = [a for a in range(W[0]) if len(lists[a]) > 1]
    apart = [places for places in itertools.chain(pieces(W), [p + q for p, q in itertools.combinations(pieces(W), 2)])
             if len(places) < W[0]]
    if apart and left > 7 and chance.randrange(3) == 0:
        places = tuple(sorted(chance.choice(apart)))
        others = tuple(a for a in range(W[0]) if a not in places)
        halves = [some_count_paper(chance, own_part(W, own), V, tuple(lists[a] for a in own), left - 1)
                  for own in (places, others)]
        return (tuple(strikes), ("apart", places, *halves))
    void = [a for a in range(W[0]) if not lists[a]]
    if void and chance.randrange(2):
        return (tuple(strikes), ("void", chance.choice(void)))
    if all_fits(W, V, lists) and chance.randrange(3):
        return (tuple(strikes), ("all",))
    if not open_places or left < 7:
        # Lists of one thing are let by as they are, or come to a void one.
        while going(W, V, lists):
            strikes.append(chance.choice(going(W, V, lists)))
            lists = without(lists, strikes[-1])
        void = [a for a in range(W[0]) if not lists[a]]
        open_places = [a for a in range(W[0]) if len(lists[a]) > 1]
        if void:
            return (tuple(strikes), ("void", chance.choice(void)))
        if not open_places:
            return (tuple(strikes), ("all",))
    a = chance.choice(open_places) if left < 7 or chance.randrange(4) else chance.randrange(W[0])
    return (tuple(strikes), ("cases", a, tuple(
        some_count_paper(chance, W, V, put(lists, a, (x,)), left - 1) for x in lists[a])))


def own_part(W, places):
    return (len(places), tuple((places.index(a), places.index(b)) for a, b in W[1] if a in places and b in places))


def all_fits(W, V, lists):
    return all((x, y) in V[1] for a, b in W[1] for x in lists[a] for y in lists[b] if a != b or x == y)


class Shown(Promise):
    def shows(self, W, V, lists, paper):
        due = len(all_led(W, V, lists))
        self.tells(due, counted_by, W, V, lists, paper)
        self.assertEqual(count_due(W, V, lists, paper), due)

    def test_by_cases(self):
        self.shows(TIE, V3, FULL, CASES)
        self.assertEqual(counted_by(TIE, V3, FULL, CASES), 3)
        turned = (
            (((0, 1, 1, "out"), (0, 2, 1, "out")), ("all",)), (((0, 1, 1, "out"), (0, 2, 1, "out")), ("all",)),
            (((0, 0, 1, "out"), (0, 2, 1, "out")), ("all",)))
        self.shows(TIE, V3, FULL, ((), ("cases", 1, turned)))

    def test_strikes_in_other_orders(self):
        W, V, lists = way_web(">>"), web(3, (0, 1), (0, 2), (1, 2)), ((0, 1, 2),) * 3
        # Each strike goes whatever stands ahead, but for those that need the middle's list to be less.
        free = ((0, 2, 1, "out"), (1, 2, 2, "out"), (1, 0, 0, "in"), (2, 0, 1, "in"))
        for order in itertools.permutations(free):
            self.shows(W, V, lists, (order + ((0, 1, 1, "out"), (2, 1, 1, "in")), ("all",)))
        self.shows(W, V, lists, (((1, 2, 2, "out"), (0, 1, 1, "out"), (0, 2, 1, "out"), (1, 0, 0, "in"),
                                  (2, 0, 1, "in"), (2, 1, 1, "in")), ("all",)))

    def test_all(self):
        self.shows(VOID, VOID, (), ALL)
        self.shows(VOID, all_web(3), (), ALL)
        self.assertEqual(counted_by(VOID, V3, (), ALL), 1)
        self.shows(web(1), web(4), ((0, 2, 3),), ALL)
        self.shows(web(3), web(4), ((0, 2, 3), (1,), (0, 1)), ALL)
        self.shows(web(2), web(3), ((0, 1), ()), ALL)
        # Ties where one list is void: each of none has ties to all.
        self.shows(TIE, web(2), ((0, 1), ()), ALL)
        self.shows(TIE, web(3, (0, 2), (1, 2)), ((0, 1), (2,)), ALL)
        self.assertEqual(counted_by(web(7), web(5), ((0, 1, 2, 3, 4),) * 7, ALL), 5 ** 7)
        self.assertEqual(counted_by(web(24), web(24), (tuple(range(24)),) * 24, ALL), 24 ** 24)

    def test_all_of_a_loop_needs_each_to_have_one_itself(self):
        loop, V = web(1, (0, 0)), web(3, (0, 0), (2, 2))
        self.shows(loop, V, ((0, 2),), ALL)
        self.shows(loop, V, ((0, 1, 2),), (((0, 1, 0, "out"),), ("all",)))
        # Of two places with loops one needs ties between unlike things, too.
        self.shows(web(2, (0, 0), (0, 1), (1, 1)), web(2, (0, 0), (0, 1), (1, 1)), ((0,), (0, 1)), ALL)

    def test_void(self):
        self.shows(web(2), V3, ((0,), ()), ((), ("void", 1)))
        self.shows(TIE, V3, ((2,), (0, 1, 2)), (((0, 2, 1, "out"),), ("void", 0)))
        self.shows(web(1), VOID, ((),), ((), ("void", 0)))
        self.shows(web(1), VOID, ((),), ALL)

    def test_cases_of_a_void_list_have_no_parts(self):
        self.shows(web(2), V3, ((0,), ()), ((), ("cases", 1, ())))
        self.shows(TIE, V3, ((2,), (0, 1, 2)), (((0, 2, 1, "out"),), ("cases", 0, ())))
        self.shows(web(1), VOID, ((),), ((), ("cases", 0, ())))

    def test_few_strikes_and_more_cases(self):
        inner = tuple(ALL if y == 2 else ((((0, 1, 1, "out"),), ("void", 0))) for y in range(3))
        more = ((), ("cases", 0, (PART_0, ((), ("cases", 1, inner)), PART_2)))
        self.shows(TIE, V3, FULL, more)
        # Cases of lists of one thing bring nothing, and are let by.
        one = ((), ("cases", 1, (((), ("cases", 0, (ALL,))),)))
        self.shows(TIE, V3, ((0,), (1,)), one)

    def test_apart(self):
        self.shows(TWO, V3, TWO_FULL, APART)
        self.assertEqual(counted_by(TWO, V3, TWO_FULL, APART), 9)
        self.shows(TWO, V3, TWO_FULL, ((), ("apart", (2, 3), CASES, CASES)))
        # Numbers in the halves are those of the parts, and their lists those that the strikes leave.
        W = web(3, (0, 2))
        self.shows(W, V3, ((0, 1, 2), (1, 2), (0, 1, 2)), ((), ("apart", (0, 2), CASES, ALL)))
        self.shows(W, V3, ((0, 1, 2), (1, 2), (0, 1, 2)), ((), ("apart", (1,), ALL, CASES)))
        self.shows(W, V3, ((0,), (1, 2), (0, 1, 2)), (((2, 2, 0, "in"),), ("apart", (1,), ALL, ALL)))
        self.shows(W, V3, ((2,), (1, 2), (0, 1, 2)), (((0, 2, 2, "out"),), ("apart", (1,), ALL, ((), ("void", 0)))))

    def test_apart_within_one_another(self):
        W = web(4, (1, 1))
        lists = ((0, 1), (0, 1, 2), (2,), (0, 2))
        loop = (((0, 2, 0, "out"), (0, 1, 0, "out")), ("all",))
        inner = ((), ("apart", (1,), loop, ALL))
        self.shows(W, V3, lists, ((), ("apart", (0, 1), inner, ((), ("apart", (0,), ALL, ALL)))))
        self.shows(W, V3, lists, ((), ("apart", (0, 1, 3), ((), ("apart", (0, 2), ALL, loop)), ALL)))
        cases = ((), ("cases", 3, (((), ("apart", (0, 2, 3), ALL, loop)), ((), ("apart", (1,), loop, ALL)))))
        self.shows(W, V3, lists, cases)

    def test_a_half_that_shows_none(self):
        W, lists = web(3, (0, 1)), ((2,), (0,), (0, 1))
        bad = (((0, 2, 1, "out"),), ("void", 0))
        self.shows(W, V3, lists, ((), ("apart", (0, 1), bad, ALL)))
        self.shows(W, V3, lists, ((), ("apart", (2,), ALL, bad)))

    def test_all_webs_of_two_places(self):
        chance = random.Random(310)
        for W, V in itertools.product(all_webs(0) + all_webs(1) + all_webs(2), repeat=2):
            self.shows(W, V, full_lists(W, V), some_count_paper(chance, W, V, full_lists(W, V)))

    def test_whoever_wrote_it(self):
        chance = random.Random(311)
        words = dict.fromkeys(("all", "void", "cases", "apart"), 0)
        for W, V in zip(some_webs(312, 250, 4), some_webs(313, 250, 3)):
            lists = some_lists(chance, W, V, 8)
            for _ in range(2):
                paper = some_count_paper(chance, W, V, lists)
                self.shows(W, V, lists, paper)
                words[paper[1][0]] += 1
        self.assertTrue(all(many > 20 for many in words.values()), words)

    def test_seven_places_into_five(self):
        chance = random.Random(314)
        for _ in range(3):
            W, V = some_web(chance, 7, 2), some_web(chance, 5, 3)
            lists = some_lists(chance, W, V, 4)
            self.shows(W, V, lists, some_count_paper(chance, W, V, lists))


class Deep(Promise):
    """Many papers within one another: paths of just twenty numbers, and one beyond."""

    LOOP, LISTS = web(1, (0, 0)), ((0,),)
    RIGHT = (((0, 0, 0, "out"),), ("void", 0))

    def within(self, depth, paper):
        for _ in range(depth):
            paper = ((), ("cases", 0, (paper,)))
        return paper

    def test_twenty_numbers_are_let_by(self):
        for depth in (1, 2, 19, 20):
            self.tells(0, counted_by, self.LOOP, web(1), self.LISTS, self.within(depth, self.RIGHT))
            self.tells(1, counted_by, web(1), web(1), self.LISTS, self.within(depth, ALL))

    def test_one_more_is_too_deep_whatever_stands_there(self):
        for depth in (21, 22, 28, 31):
            for inner in (self.RIGHT, ALL, None, [], (), ((), ("cases", 0, ()))):
                due = ((0,) * 21, "deep", 0)
                self.refuses(NoPaper, due, counted_by, self.LOOP, web(1), self.LISTS, self.within(depth, inner))

    def test_faults_at_twenty_numbers(self):
        for inner, word in [
            (None, "shape"), (ALL, "all"), (((), ("void", 0)), "void"), (((), ("cases", 0, ())), "cases"),
            ((((0, 0, 0, "in"), (0, 0, 0, "out")), ("void", 0)), "strike"), (((), ("apart", (0,), ALL, ALL)), "shape"),
        ]:
            self.refuses(NoPaper, ((0,) * 20, word, 0), counted_by, self.LOOP, web(1), self.LISTS,
                         self.within(20, inner))

    def test_halves_count_as_parts(self):
        # Webs of fewer and fewer places, the last one taken apart each time.
        def peeled(n, inner):
            return inner if n == 1 else ((), ("apart", (n - 1,), ALL, peeled(n - 1, inner)))
        for n in (1, 2, 20, 21):
            self.tells(2 ** n, counted_by, web(n), web(2), ((0, 1),) * n, peeled(n, ALL))
        self.refuses(NoPaper, ((1,) * 20 + (0,), "deep", 0), counted_by, web(22), web(2), ((0, 1),) * 22, peeled(22, ALL))
        self.refuses(NoPaper, ((1,) * 20, "shape", 0), counted_by, web(21), web(2), ((0, 1),) * 21, peeled(21, None))

    def test_what_stands_ahead_of_it_is_due_first(self):
        # At twenty numbers the parts are not as many, so none of them is gone into.
        thing = self.within(20, ((), ("cases", 0, (ALL, ALL))))
        self.refuses(NoPaper, ((0,) * 20, "cases", 0), counted_by, self.LOOP, web(1), self.LISTS, thing)
        two = ((0, 1),)
        both = ((), ("cases", 0, (self.within(20, ALL), None)))
        self.refuses(NoPaper, ((0,) * 21, "deep", 0), counted_by, web(1), web(2), two, both)
        both = ((), ("cases", 0, (None, self.within(20, ALL))))
        self.refuses(NoPaper, ((0,), "shape", 0), counted_by, web(1), web(2), two, both)

    def test_few_calls_stand_within_one_another(self):
        self.assertEqual(self.shallow(counted_by, web(1), web(1), self.LISTS, self.within(20, ALL)), 1)
        with self.assertRaises(NoPaper):
            self.shallow(counted_by, web(1), web(1), self.LISTS, self.within(33, ALL))


class Refused(Promise):
    def refused(self, path, word, W, V, lists, thing):
        self.refuses(NoPaper, (path, word, 0), counted_by, W, V, lists, thing)
        self.assertEqual(count_due(W, V, lists, thing), (path, word, 0))

    def at_tie(self, path, word, thing):
        self.refused(path, word, TIE, V3, FULL, thing)

    def test_no_tuple_of_two(self):
        for thing in list(JUNK) + [
            (), ((),), ((), ("all",), ()), [(), ("all",)], (("all",), ()), "all", ("all",), (("all",),),
            ((), "all"), ((), ["all"]), ("", ("all",)), nested(99, tuple),
        ]:
            self.at_tie((), "shape", thing)
            self.refused((), "shape", VOID, VOID, (), thing)

    def test_strikes_by_kind(self):
        for strikes in ([], [(0, 2, 1, "out")], None, "", 0, True):
            self.refused((), "shape", web(2), V3, FULL, (strikes, ("all",)))
        for strike in [
            (), (0, 2, 1), (0, 2, 1, "out", 0), [0, 2, 1, "out"], None, (0, 2, 1, "else"), (0, 2, 1, ""),
            (0, 2, 1, None), (0, 2, 1, True), (0, 2, 1, ("out",)), (0, 2, True, "out"), (False, 2, 1, "out"),
            (0, 3, 1, "out"), (2, 2, 1, "out"), (0, 2, 2, "out"), (-1, 2, 1, "out"), (0, -1, 1, "out"), (0, 2, -1, "out"),
            ("0", 2, 1, "out"), (0, "2", 1, "out"), (0, None, 1, "out"), (0, 2, 10 ** 199, "out"), (0, [2], 1, "out"),
        ]:
            for end in (("all",), CASES[1], ("void", 0), None):
                self.at_tie((), "shape", ((strike,), end))
                self.at_tie((), "shape", (((0, 2, 1, "out"), strike), end))

    def test_ends_by_kind(self):
        for end in [
            (), None, 0, True, "all", ["all"], ("all", ()), ("all", 0), ("All",), ("",), (True,), (("all",),),
            ("void",), ("void", 0, 0), ["void", 0], ("void", 2), ("void", -1), ("void", True), ("void", "0"),
            ("void", None), ("Void", 0), ("cases", 0), ("cases",), ("cases", 0, [PART_0, PART_1, PART_2]),
            ("cases", 0, None), ("cases", 0, CASES[1][2], ()), ["cases", 0, CASES[1][2]], ("cases", 2, CASES[1][2]),
            ("cases", -1, CASES[1][2]), ("cases", False, CASES[1][2]), ("cases", "0", CASES[1][2]), ("case", 0, ()),
            ("apart",), ("apart", (0,)), ("apart", (0,), ALL), ("apart", (0,), ALL, ALL, ALL), ["apart", (0,), ALL, ALL],
            ("apart", 0, ALL, ALL), ("apart", (), ALL, ALL), ("apart", (0, 1), ALL, ALL), ("apart", (1, 0), ALL, ALL),
            ("apart", [0], ALL, ALL), ("apart", (2,), ALL, ALL), ("apart", (-1,), ALL, ALL), ("apart", (False,), ALL, ALL),
            ("apart", (True,), ALL, ALL), ("apart", ("0",), ALL, ALL), ("apart", None, ALL, ALL),
            ("apart", (0, 0), ALL, ALL), ("apart", "0", ALL, ALL), ("Apart", (0,), ALL, ALL), (None, (0,), ALL, ALL),
            (0, 0, 0, "out"), ("counts",),
        ]:
            self.at_tie((), "shape", ((), end))
            self.refused((), "shape", web(2), V3, FULL, ((), end))

    def test_places_apart_that_do_not_rise_or_are_all(self):
        for places in [(1, 0), (0, 0), (0, 1, 2), (0, 1, 2, 3), (2, 1), (0, 3), (0, 2, 1), (0, True), (False, 1)]:
            self.refused((), "shape", web(3), V3, ((0,),) * 3, ((), ("apart", places, ALL, ALL)))

    def test_of_webs_without_places_or_with_one(self):
        for end in [("void", 0), ("cases", 0, ()), ("apart", (), ALL, ALL), ("apart", (0,), ALL, ALL)]:
            self.refused((), "shape", VOID, V3, (), ((), end))
        for places in [(), (0,), (1,)]:
            self.refused((), "shape", web(1), V3, ((0,),), ((), ("apart", places, ALL, ALL)))

    def test_strikes_that_do_not_go(self):
        for strikes in [
            ((0, 0, 1, "out"),), ((0, 2, 1, "in"),), ((1, 2, 0, "in"),), ((0, 2, 1, "out"),) * 2,
            ((0, 2, 1, "out"), (0, 0, 0, "out")), ((0, 2, 0, "out"),),
        ]:
            for end in [("all",), ("void", 0), ("cases", 0, ()), ("cases", 0, (None,) * 3), ("apart", (0,), None, None)]:
                self.at_tie((), "strike", (strikes, end))

    def test_not_all(self):
        self.at_tie((), "all", ALL)
        self.at_tie((), "all", (((0, 2, 1, "out"),), ("all",)))
        loops = web(1, (0, 0))
        self.refused((), "all", loops, V3, ((0, 1),), ALL)
        self.refused((), "all", loops, V3, ((1,),), ALL)
        self.refused((), "all", web(2, (1, 0)), web(2, (0, 1)), ((0,), (1,)), ALL)
        self.refused((), "all", web(3, (0, 1), (1, 2)), web(2, (0, 1)), ((0,), (1,), (0,)), ALL)
        # Each of two lists of two things has ties, but not each to each.
        self.refused((), "all", TIE, web(2, (0, 0), (0, 1), (1, 0)), ((0, 1), (0, 1)), ALL)

    def test_not_void(self):
        self.at_tie((), "void", ((), ("void", 0)))
        self.at_tie((), "void", (((0, 2, 1, "out"),), ("void", 0)))
        self.refused((), "void", TIE, V3, ((), (0,)), ((), ("void", 1)))

    def test_not_as_many_parts(self):
        for parts in [(), (PART_0,), (PART_0, PART_1), CASES[1][2] * 2, (None,) * 4]:
            self.at_tie((), "cases", ((), ("cases", 0, parts)))
        self.at_tie((), "cases", (((0, 2, 1, "out"),), CASES[1]))
        self.refused((), "cases", TIE, V3, ((), (0,)), ((), ("cases", 0, (None,))))

    def test_a_tie_between(self):
        self.at_tie((), "apart", ((), ("apart", (0,), ALL, ALL)))
        self.at_tie((), "apart", ((), ("apart", (1,), None, None)))
        for places in [(0,), (1,), (0, 2), (1, 3), (0, 3), (1, 2), (0, 1, 2), (1, 2, 3)]:
            self.refused((), "apart", TWO, V3, TWO_FULL, ((), ("apart", places, ALL, None)))
        # By a strike or a void list a tie is none the less there.
        self.refused((), "apart", TIE, V3, ((), (0,)), ((), ("apart", (0,), ALL, ALL)))

    def test_within_parts(self):
        for part, word in [
            (None, "shape"), ([], "shape"), (ALL, "all"), (((), ("void", 0)), "void"), (((), ("cases", 0, ())), "cases"),
            (((), ("apart", (0,), None, None)), "apart"), ((((0, 0, 1, "out"),), ("all",)), "strike"),
            ((((0, 0, True, "out"),), ("all",)), "shape"),
        ]:
            for k in range(3):
                parts = CASES[1][2][:k] + (part,) + CASES[1][2][k + 1:]
                self.at_tie((k,), word, ((), ("cases", 0, parts)))
                self.at_tie((k,), word, ((), ("cases", 0, CASES[1][2][:k] + (part,) + (None,) * (2 - k))))

    def test_within_halves(self):
        for half, word in [
            (None, "shape"), (ALL, "all"), (((), ("void", 1)), "void"), (((), ("cases", 1, (ALL,))), "cases"),
            (((), ("apart", (0,), ALL, ALL)), "apart"), ((((1, 1, 0, "in"),), ("all",)), "strike"),
            # Places of the whole web that the half does not have.
            (((), ("void", 2)), "shape"), (((), ("cases", 3, ())), "shape"), (((), ("apart", (2,), ALL, ALL)), "shape"),
            ((((2, 2, 3, "out"),), CASES[1]), "shape"), (((), ("apart", (0, 1), ALL, ALL)), "shape"),
        ]:
            self.refused((0,), word, TWO, V3, TWO_FULL, ((), ("apart", (0, 1), half, CASES)))
            self.refused((0,), word, TWO, V3, TWO_FULL, ((), ("apart", (0, 1), half, None)))
            self.refused((1,), word, TWO, V3, TWO_FULL, ((), ("apart", (0, 1), CASES, half)))
        # The other half is looked at, though the first one shows 0.
        lists = ((), (0,), (0, 1, 2), (0, 1, 2))
        self.refused((1,), "all", TWO, V3, lists, ((), ("apart", (0, 1), ((), ("void", 0)), ALL)))
        self.refused((0,), "all", TWO, V3, lists, ((), ("apart", (2, 3), ALL, ((), ("void", 0)))))

    def test_the_first_fault_counts(self):
        deep = ((), ("cases", 1, (None,) * 3))
        self.at_tie((0, 0), "shape", ((), ("cases", 0, (deep, None, None))))
        self.at_tie((1, 0), "shape", ((), ("cases", 0, (PART_0, deep, None))))
        self.refused((0, 2), "all", TWO, V3, TWO_FULL, (
            (), ("apart", (0, 1), ((), ("cases", 0, (PART_0, PART_1, PART_1))), None)))
        self.refused((1, 2), "all", TWO, V3, TWO_FULL, (
            (), ("apart", (0, 1), CASES, ((), ("cases", 0, (PART_0, PART_1, PART_1))))))

    def test_things_of_other_kinds_at_any_depth(self):
        for W, lists, paper in [(TIE, FULL, CASES), (TWO, TWO_FULL, APART)]:
            for thing in [paper] + spoiled(paper):
                self.as_due(W, V3, lists, thing)

    def as_due(self, W, V, lists, thing):
        due = count_due(W, V, lists, thing)
        if isinstance(due, int):
            self.tells(due, counted_by, W, V, lists, thing)
        else:
            self.refuses(NoPaper, due, counted_by, W, V, lists, thing)
        return due

    def test_papers_with_things_otherwise(self):
        chance = random.Random(315)
        words = dict.fromkeys(("shape", "strike", "all", "void", "cases", "apart"), 0)
        for W, V in zip(some_webs(316, 250, 4), some_webs(317, 250, 3)):
            lists = some_lists(chance, W, V, 9)
            paper = some_count_paper(chance, W, V, lists)
            for _ in range(8):
                due = self.as_due(W, V, lists, otherwise(chance, paper))
                if isinstance(due, int):
                    self.assertEqual(due, len(all_led(W, V, lists)))
                else:
                    words[due[1]] += 1
        self.assertTrue(all(many > 8 for many in words.values()), words)

    def test_papers_of_other_webs_show_the_count_or_are_refused(self):
        chance = random.Random(318)
        shown = 0
        for W, V in itertools.product(all_webs(2), repeat=2):
            other = chance.choice(all_webs(2))
            paper = some_count_paper(chance, W, other, full_lists(W, other))
            due = self.as_due(W, V, full_lists(W, V), paper)
            if isinstance(due, int):
                self.assertEqual(due, len(all_led(W, V)))
                shown += 1
        self.assertGreater(shown, 20)

    def test_line_and_round(self):
        self.refused((0,), "void", round_web(3), line_web(3), ((0, 1, 2),) * 3, ((), ("cases", 0, (
            (((0, 0, 2, "in"),), ("void", 1)), None, None))))


if __name__ == "__main__":
    unittest.main()
