"""Points [33] to [35]: papers laid into a web, narrowed, and turned about."""

import random
import unittest

from helper import Promise, all_led, refusal_due, some_lists, some_paper, some_web, some_webs, web
from webintoweb.barred import laid_in, narrowed, turned_about
from webintoweb.families import line_web, round_web
from webintoweb.finding import led, void_paper
from webintoweb.leadings import full_lists
from webintoweb.nonechecker import lets_none
from webintoweb.webs import backwards, part

PART_0 = (((1, 0, 0, "in"), (2, 1, 1, "in"), (0, 0, 2, "in")), ("void", 0))
PART_1 = (((1, 1, 0, "in"), (2, 0, 1, "in"), (0, 1, 2, "in")), ("void", 0))
CASES = ((), ("cases", 0, (PART_0, PART_1)))
W3, V2, FULL = round_web(3), round_web(2), ((0, 1),) * 3


def some_asked(seed, many, most_w, most_v):
    """Webs, lists that no leading keeps, and papers of them, some found and some as anyone might write them."""
    chance = random.Random(seed)
    for W, V in zip(some_webs(seed + 1, many, most_w), some_webs(seed + 2, many, most_v)):
        lists = some_lists(chance, W, V, chance.randrange(6, 11))
        if W[0] and not all_led(W, V, lists):
            yield chance, W, V, lists, led(W, V, lists)[1]
            yield chance, W, V, lists, some_paper(chance, W, V, lists)


class Let(Promise):
    def lets(self, W, V, lists, paper):
        self.tells(True, lets_none, W, V, lists, paper)
        self.assertIsNone(refusal_due(W, V, lists, paper))


class LaidIn(Let):
    def test_by_hand(self):
        self.tells(((), ("void", 5)), laid_in, ((), ("void", 1)), (2, 5))
        self.tells(((), ("cases", 5, ())), laid_in, ((), ("cases", 1, ())), (2, 5))
        self.tells((((4, 0, 1, "out"), (6, 1, 4, "in")), ("void", 6)), laid_in,
                   (((1, 0, 0, "out"), (2, 1, 1, "in")), ("void", 2)), (1, 4, 6))
        self.tells(((), ("cases", 1, (
            (((3, 0, 1, "in"), (4, 1, 3, "in"), (1, 0, 4, "in")), ("void", 1)),
            (((3, 1, 1, "in"), (4, 0, 3, "in"), (1, 1, 4, "in")), ("void", 1))))), laid_in, CASES, (1, 3, 4))

    def test_laid_into_all_places_it_is_itself(self):
        for chance, W, V, lists, paper in some_asked(150, 60, 4, 3):
            self.tells(paper, laid_in, paper, tuple(range(W[0])))

    def test_it_is_let_by(self):
        chance = random.Random(160)
        many = 0
        for _ in range(120):
            W, V = some_web(chance, chance.randrange(1, 8), 4), some_web(chance, chance.randrange(4), 4)
            places = tuple(sorted(chance.sample(range(W[0]), chance.randrange(1, min(W[0], 4) + 1))))
            lists = some_lists(chance, W, V, 8)
            inner = tuple(lists[a] for a in places)
            U = part(W, places)
            if not all_led(U, V, inner):
                for paper in (led(U, V, inner)[1], some_paper(chance, U, V, inner)):
                    self.lets(W, V, lists, self.told(laid_in, paper, places))
                    other = tuple(row if a in places else (0,) * bool(V[0]) for a, row in enumerate(lists))
                    self.lets(W, V, other, laid_in(paper, places))
                    many += 1
        self.assertGreater(many, 60)


class Narrowed(Let):
    def test_to_the_same_lists_it_is_itself(self):
        for chance, W, V, lists, paper in some_asked(170, 60, 4, 3):
            self.tells(paper, narrowed, W, V, lists, paper, lists)

    def test_strikes_of_what_stands_no_more_are_left_out(self):
        W, V = web(3, (0, 1), (1, 2)), web(3)
        lists = ((0, 1, 2), (0, 1), (0,))
        strikes = ((0, 2, 1, "out"), (1, 0, 2, "out"), (0, 0, 1, "out"), (1, 1, 0, "in"), (0, 1, 1, "out"))
        paper = (strikes, ("void", 0))
        self.lets(W, V, lists, paper)
        for others, due in [
            (((0, 2), (0, 1), (0,)), strikes[:4]), (((0, 1, 2), (1,), (0,)), strikes[:1] + strikes[2:]),
            (((), (0, 1), (0,)), (strikes[1], strikes[3])), (((), (), ()), ()), (((1,), (0,), ()), (strikes[1], strikes[4])),
        ]:
            self.tells((due, ("void", 0)), narrowed, W, V, lists, paper, others)
            self.lets(W, V, others, (due, ("void", 0)))

    def test_parts_are_those_of_what_is_left(self):
        self.tells(((), ("cases", 0, (PART_1,))), narrowed, W3, V2, FULL, CASES, ((1,), (0, 1), (0, 1)))
        self.tells(((), ("cases", 0, (PART_0,))), narrowed, W3, V2, FULL, CASES, ((0,), (0, 1), (0, 1)))
        self.tells(((), ("cases", 0, ())), narrowed, W3, V2, FULL, CASES, ((), (0, 1), (0, 1)))

    def test_parts_are_narrowed_likewise(self):
        others = ((0, 1), (0,), (0, 1))
        due = ((), ("cases", 0, (PART_0, (PART_1[0][1:], ("void", 0)))))
        self.tells(due, narrowed, W3, V2, FULL, CASES, others)
        self.lets(W3, V2, others, due)

    def test_parts_by_the_list_as_strikes_leave_it(self):
        # The paper strikes 0 of a list of three; its parts are those of 1 and 2.
        W, V = web(2, (0, 0), (0, 1)), web(3, (1, 2), (2, 1))
        lists = ((0, 1, 2), (1, 2))
        first = (((0, 1, 0, "out"),), ("void", 0))
        last = (((0, 2, 0, "in"),), ("void", 0))
        paper = (((0, 0, 1, "out"),), ("cases", 0, (first, last)))
        self.lets(W, V, lists, paper)
        for others, due in [
            (((0, 2), (1, 2)), (((0, 0, 1, "out"),), ("cases", 0, (last,)))),
            (((1, 2), (1, 2)), ((), ("cases", 0, (first, last)))),
            (((0, 1), (2,)), (((0, 0, 1, "out"),), ("cases", 0, (first,)))),
            (((0,), ()), (((0, 0, 1, "out"),), ("cases", 0, ()))),
        ]:
            self.tells(due, narrowed, W, V, lists, paper, others)
            self.lets(W, V, others, due)

    def test_against_the_words(self):
        for chance, W, V, lists, paper in some_asked(180, 120, 4, 3):
            for thick in (3, 6, 9):
                others = tuple(tuple(x for x in row if chance.randrange(10) < thick) for row in lists)
                told = self.told(narrowed, W, V, lists, paper, others)
                self.lets(W, V, others, told)
                self.same(told, self.due(lists, paper, others))

    def due(self, lists, paper, others):
        """The words, by sets."""
        lists, others = [set(row) for row in lists], [set(row) for row in others]
        kept = []
        for strike in paper[0]:
            if strike[1] in others[strike[0]]:
                kept.append(strike)
            lists[strike[0]] -= {strike[1]}
            others[strike[0]] -= {strike[1]}
        if paper[1][0] == "void":
            return (tuple(kept), paper[1])
        a = paper[1][1]
        chosen = [(x, inner) for x, inner in zip(sorted(lists[a]), paper[1][2]) if x in others[a]]
        return (tuple(kept), ("cases", a, tuple(
            self.due(lists[:a] + [{x}] + lists[a + 1:], inner, others[:a] + [{x}] + others[a + 1:])
            for x, inner in chosen)))

    def test_sixteen_places(self):
        W, V = line_web(16), line_web(15)
        lists = full_lists(W, V)
        others = tuple(row[a % 3:] for a, row in enumerate(lists))
        paper = void_paper(W, V, lists)
        self.lets(W, V, others, self.told(narrowed, W, V, lists, paper, others))


class TurnedAbout(Let):
    def test_by_hand(self):
        self.tells(((), ("void", 1)), turned_about, ((), ("void", 1)))
        self.tells((((0, 1, 2, "in"), (3, 4, 5, "out")), ("cases", 7, ())), turned_about,
                   (((0, 1, 2, "out"), (3, 4, 5, "in")), ("cases", 7, ())))
        self.tells(((), ("cases", 0, tuple(
            (tuple((a, x, b, "out") for a, x, b, way in strikes), end) for strikes, end in (PART_0, PART_1)))),
            turned_about, CASES)

    def test_it_is_let_by_of_the_webs_backwards(self):
        for chance, W, V, lists, paper in some_asked(190, 120, 4, 3):
            told = self.told(turned_about, paper)
            self.lets(backwards(W), backwards(V), lists, told)
            self.tells(paper, turned_about, told)

    def test_ways_alone_are_otherwise(self):
        for chance, W, V, lists, paper in some_asked(200, 60, 4, 3):
            words = repr(paper).replace("'out'", "?").replace("'in'", "'out'").replace("?", "'in'")
            self.assertEqual(repr(turned_about(paper)), words)


class Deep(Let):
    def test_many_cases_within_one_another(self):
        W, V, lists = web(1, (0, 0)), web(1), ((0,),)
        paper = (((0, 0, 0, "out"),), ("void", 0))
        for _ in range(28):
            paper = ((), ("cases", 0, (paper,)))
        self.lets(W, V, lists, paper)
        self.lets(W, V, lists, turned_about(paper))
        self.tells(paper, narrowed, W, V, lists, paper, lists)
        self.lets(web(4, (2, 2)), V, ((),) * 2 + lists + ((),), laid_in(paper, (2,)))
        self.same(self.shallow(turned_about, self.shallow(turned_about, paper)), paper)
        self.same(self.shallow(narrowed, W, V, lists, paper, lists), paper)
        self.same(self.shallow(laid_in, paper, (0,)), paper)


if __name__ == "__main__":
    unittest.main()
