"""Point [5]: what is promised over the whole program, against going through, on small webs."""

import itertools
import math
import random
import unittest

from helper import (
    Promise, all_led, all_webs, closed_lists, fits, is_middle_of, leads, least_hues, some_fitting, some_lists, some_tree,
    some_web, some_webs, web,
)
from webintoweb.alikechecker import lets_alike
from webintoweb.aliking import alike_told
from webintoweb.barchecker import lets_bar
from webintoweb.barring import line_told, round_told, two_told
from webintoweb.bars import bar_told
from webintoweb.boundchecker import lets_above, lets_below
from webintoweb.bounding import above_told, below_told
from webintoweb.closing import closed
from webintoweb.corechecker import lets_core, lets_least
from webintoweb.cores import all_turnings, core_told, least_told, least_web
from webintoweb.countchecker import counted_by
from webintoweb.counting import all_leadings, count
from webintoweb.countpapers import count_paper
from webintoweb.desk import Desk
from webintoweb.enough import middle_told
from webintoweb.errors import NoBar, NoPaper
from webintoweb.families import all_web, line_web, round_web
from webintoweb.finding import led
from webintoweb.holder import Holder
from webintoweb.huechecker import lets_hues, shown_by
from webintoweb.hues import hue_poly, hue_tree, hues_told, value_at
from webintoweb.leadings import behind, full_lists, is_leading, is_one_to_one, is_onto, itself, keeps
from webintoweb.nonechecker import lets_none
from webintoweb.ordered import is_order_web, least_leading
from webintoweb.pairchecker import lets_pairs
from webintoweb.pairclosing import closed_table
from webintoweb.pairtelling import pairs_told
from webintoweb.paperlines import paper_lines, read_paper
from webintoweb.powers import given_out, power, taken_in
from webintoweb.ranks import below_table
from webintoweb.sames import same_told
from webintoweb.together import cut_paired, cut_side, into_paired, over_side, paired, side
from webintoweb.trees import images
from webintoweb.unlikechecker import lets_unlike
from webintoweb.walkchecker import lets_line, lets_round, lets_two
from webintoweb.walks import levels, longest
from webintoweb.webs import backwards, part, renamed

SMALL = all_webs(0) + all_webs(1) + all_webs(2)
NAMED = [round_web(3), all_web(3), line_web(3), web(3, (0, 1), (1, 2)), web(3, (0, 0), (1, 2)), web(3, (0, 1), (2, 1))]


def below(W, V):
    return bool(all_led(W, V))


def some_names(chance, own):
    return tuple(chance.sample(range(own[0]), own[0]))


class YesOrNo(Promise):
    """Of each question just one of yes and no comes, and with it what its checker lets by."""

    def asked(self, yes, word, paper_let_by):
        self.assertEqual(word, yes)
        self.assertIs(paper_let_by, True)

    def of_two(self, W, V, lists):
        found = all_led(W, V, lists)
        word, told = led(W, V, lists)
        if found:
            self.assertEqual((word, told), ("leading", found[0]))
            self.assertTrue(is_leading(W, V, told) and keeps(lists, told))
            # Whoever wrote it: no paper is let by.
            for paper in [((), ("void", a)) for a in range(W[0])] + [((), ("cases", a, ())) for a in range(W[0])]:
                if lists[paper[1][1]]:
                    self.assertRaises(NoPaper, lets_none, W, V, lists, paper)
        else:
            self.asked("none", word, lets_none(W, V, lists, told))
            self.asked("none", word, lets_none(W, V, lists, read_paper(paper_lines(told))))
        self.assertEqual(counted_by(W, V, lists, count_paper(W, V, lists)), len(found))
        self.assertEqual((count(W, V, lists), all_leadings(W, V, lists)), (len(found), found))
        word, told = pairs_told(W, V, lists)
        self.assertTrue(word == "table" and told == closed_table(W, V, lists) or lets_pairs(W, V, lists, told) and not found)
        word, told = bar_told(W, V, lists)
        self.assertTrue(word == "lists" and told == closed(W, V, lists) or lets_bar(W, V, lists, told) and not found)

    def test_of_two_webs_and_lists(self):
        chance = random.Random(800)
        for W, V in itertools.product(SMALL, repeat=2):
            self.of_two(W, V, full_lists(W, V))
            self.of_two(W, V, some_lists(chance, W, V))
        for W, V in zip(some_webs(801, 80, 4), some_webs(802, 80, 3)):
            self.of_two(W, V, some_lists(chance, W, V, 9))

    def test_of_two_webs(self):
        for W, V in itertools.chain(itertools.product(SMALL, repeat=2), itertools.product(NAMED, repeat=2)):
            told = alike_told(W, V)
            self.asked("alike" if below(W, V) and below(V, W) else "not", told[0], lets_alike(W, V, told))
            word, told = same_told(W, V)
            names = [f for f in itertools.permutations(range(W[0])) if renamed(W, f) == V]
            self.assertEqual(word, "same" if names else "unlike")
            if names:
                self.assertEqual(renamed(W, told), V)
            else:
                self.assertIs(lets_unlike(W, V, told), True)

    def test_of_one_web(self):
        for own in SMALL + NAMED + some_webs(803, 40, 4):
            word, told = core_told(own)
            missed = [f for f in all_led(own, own) if not is_onto(own, f)]
            self.assertEqual(word, "lesser" if missed else "core")
            self.assertTrue(told in missed or lets_core(own, told))
            self.assertIs(lets_least(own, least_told(own)), True)
            for k in range(1, 5):
                told = round_told(own, k)
                self.asked("leading" if below(own, round_web(k)) else "walk", told[0], lets_round(own, k, told))
                told = line_told(own, k)
                self.asked("leading" if below(own, line_web(k)) else "walk", told[0], lets_line(own, k, told))
            told = two_told(own)
            self.asked("leading" if below(own, all_web(2)) else "walk", told[0], lets_two(own, told))
            told = hues_told(own)
            self.asked("hues" if least_hues(own) is not None else "loop", told[0], lets_hues(own, told))
            self.assertEqual(shown_by(own, hue_tree(own)), hue_poly(own))

    def test_where_a_leading_is_no_tree_bars(self):
        chance = random.Random(804)
        for W, V in itertools.product(SMALL, repeat=2):
            if W[0] and below(W, V):
                tree = some_tree(chance, W, 0, 6)
                self.assertTrue(images(W, V, full_lists(W, V), tree))
                self.assertRaises(NoBar, lets_bar, W, V, full_lists(W, V), tree)


class Counts(Promise):
    """Counts are those of going through; side by side they multiply, into pairs too; by powers they are the same."""

    def many(self, W, V):
        told = count(W, V, full_lists(W, V))
        self.assertEqual(told, len(all_led(W, V)))
        return told

    def test_side_and_pairs(self):
        webs = SMALL[::2] + NAMED[:3]
        for W, U, V in itertools.product(webs, webs[::2], webs[::2]):
            if W[0] + U[0] <= 5:
                self.assertEqual(self.many(side(W, U), V), self.many(W, V) * self.many(U, V))
            if (U[0] * V[0]) ** W[0] <= 800:
                self.assertEqual(self.many(W, paired(U, V)), self.many(W, U) * self.many(W, V))

    def test_one_for_one(self):
        for W, U, V in itertools.product(SMALL[1:8], SMALL[2:9], SMALL[3:10:2]):
            both = all_led(side(W, U), V)
            self.assertEqual([cut_side(W, h) for h in both], list(itertools.product(all_led(W, V), all_led(U, V))))
            self.assertEqual([over_side(*cut_side(W, h)) for h in both], both)
            both = all_led(W, paired(U, V))
            self.assertEqual(sorted(cut_paired(V, h) for h in both), list(itertools.product(all_led(W, U), all_led(W, V))))
            self.assertEqual([into_paired(V, *cut_paired(V, h)) for h in both], both)

    def test_powers(self):
        webs = SMALL[::3] + [line_web(2), round_web(2)]
        for U, W, V in itertools.product(webs, repeat=3):
            if U[0] * W[0] <= 4 and V[0] ** (U[0] * W[0]) <= 800:
                onto = power(V, W)
                found = all_led(paired(U, W), V)
                self.assertEqual(self.many(U, onto), len(found))
                self.assertEqual([given_out(U, W, V, taken_in(U, W, V, f)) for f in found], found)
                self.assertEqual(sorted(taken_in(U, W, V, f) for f in found), all_led(U, onto))


class Order(Promise):
    """Leadings put behind one another; below goes on; the least above both, the greatest below both."""

    def test_behind_one_another(self):
        for W, V, U in itertools.product(SMALL[::2], SMALL[1::3], SMALL[::3] + NAMED[:2]):
            for f, g in itertools.product(all_led(W, V), all_led(V, U)):
                self.assertTrue(is_leading(W, U, behind(f, g)))
            for f in all_led(W, V):
                self.assertEqual((behind(itself(W), f), behind(f, itself(V))), (f, f))

    def test_below_goes_on(self):
        webs = NAMED + [SMALL[1], SMALL[2]]
        for own in range(0, len(webs), 2):
            table = below_table(tuple(webs[own:own + 6]))
            n = len(table)
            for j, k in itertools.product(range(n), repeat=2):
                self.assertEqual(table[j][k], below(webs[own + j], webs[own + k]))
                for at in range(n):
                    self.assertTrue(table[j][at] or not (table[j][k] and table[k][at]))

    def test_least_above_and_greatest_below(self):
        others = SMALL + NAMED
        for W, V in itertools.product(SMALL[::2] + NAMED[:2], repeat=2):
            S, paper = above_told((W, V))
            self.assertIs(lets_above((W, V), S, paper), True)
            T, paper = below_told((W, V))
            self.assertIs(lets_below((W, V), T, paper), True)
            for U in others[::3]:
                # S is below U just where both are; U is below T just where it is below both.
                self.assertEqual(led(S, U, full_lists(S, U))[0] == "leading", below(W, U) and below(V, U))
                self.assertEqual(led(U, T, full_lists(U, T))[0] == "leading", below(U, W) and below(U, V))
            for whole, both in [(side(W, V), S), (paired(W, V), T)]:
                self.assertEqual(alike_told(whole, both)[0], "alike")


class Least(Promise):
    """Least webs of a web are one up to names, led both ways, led into themselves by turnings alone."""

    def test_least_webs(self):
        for own in SMALL + NAMED + some_webs(805, 40, 4) + [round_web(5), web(5, (0, 1), (1, 2), (2, 3), (3, 4))]:
            least = least_web(own)
            self.assertTrue(below(own, least) and below(least, own))
            found = all_led(least, least)
            self.assertTrue(all(is_one_to_one(f) for f in found))
            self.assertEqual(all_turnings(least), found)
            for f in all_led(own, own):
                # Whatever else it is led onto so that nothing less is there: the same up to names.
                hit = tuple(sorted(set(f)))
                if len(hit) == least[0] and all(f[a] == a for a in hit):
                    self.assertEqual(same_told(least, part(own, hit))[0], "same")
            self.assertFalse([f for f in all_led(own, own) if len(set(f)) < least[0]])

    def test_least_webs_of_alike_webs(self):
        chance = random.Random(806)
        for own in SMALL[1:] + NAMED:
            other = side(own, part(own, tuple(a for a in range(own[0]) if chance.randrange(2))))
            self.assertEqual(alike_told(own, other)[0], "alike")
            self.assertEqual(same_told(least_web(own), least_web(other))[0], "same")


class Closings(Promise):
    """Closings bar no leading; where an order or a middle is told they are enough."""

    def test_no_leading_is_lost(self):
        chance = random.Random(807)
        for W, V in zip(some_webs(808, 120, 4), some_webs(809, 120, 3)):
            lists = some_lists(chance, W, V, 8)
            found = all_led(W, V, lists)
            self.assertEqual(all_led(W, V, closed(W, V, lists)), found)
            table = closed_table(W, V, lists)
            for f in found:
                self.assertTrue(all((f[a], f[b]) in table[a][b] for a in range(W[0]) for b in range(W[0])))

    def test_an_order_is_enough(self):
        chance = random.Random(810)
        told = []
        for V in [own for own in SMALL + all_webs(3) if is_order_web(own)][::3]:
            W = some_web(chance, 4, 3)
            lists = some_lists(chance, W, V, 9)
            word, f = least_leading(W, V, lists)
            told.append(word)
            self.assertEqual(word == "leading", () not in closed_lists(W, V, lists))
            self.assertEqual(word == "leading", bool(all_led(W, V, lists)))
            self.assertTrue(word == "void" or leads(W, V, f) and keeps(lists, f))
        self.assertTrue("leading" in told and "void" in told)

    def test_a_middle_is_enough(self):
        chance = random.Random(811)
        told = []
        for (V, middle), W in zip(some_fitting(812, 80, 3), some_webs(813, 80, 4)):
            lists = some_lists(chance, W, V, 9)
            if fits(middle, lists):
                self.assertTrue(is_middle_of(V, middle))
                told.append(middle_told(W, V, lists, middle)[0])
                self.assertEqual(told[-1] == "leading", bool(all_led(W, V, lists)))
                self.assertEqual(pairs_told(W, V, lists)[0] == "table", bool(all_led(W, V, lists)))
        self.assertTrue("leading" in told and "none" in told)


class Names(Promise):
    """Names turned about turn nothing but names."""

    def test_leadings(self):
        chance = random.Random(814)
        for W, V in zip(some_webs(815, 60, 4), some_webs(816, 60, 3)):
            lists = some_lists(chance, W, V, 8)
            f, g = some_names(chance, W), some_names(chance, V)
            turned = [None] * W[0]
            for a in range(W[0]):
                turned[f[a]] = tuple(sorted(g[x] for x in lists[a]))
            asked = (renamed(W, f), renamed(V, g), tuple(turned))
            self.assertEqual(count(*asked), count(W, V, lists))
            for told in (led, pairs_told, bar_told):
                self.assertEqual(told(*asked)[0], told(W, V, lists)[0])
            shut = closed(W, V, lists)
            self.assertEqual(closed(*asked), tuple(
                tuple(sorted(g[x] for x in shut[f.index(a)])) for a in range(W[0])))

    def test_webs(self):
        chance = random.Random(817)
        for own in SMALL + NAMED + some_webs(818, 40, 4):
            other = renamed(own, some_names(chance, own))
            self.assertEqual(same_told(own, other)[0], "same")
            self.assertEqual(alike_told(own, other)[0], "alike")
            self.assertEqual(core_told(own)[0], core_told(other)[0])
            self.assertEqual(same_told(least_web(own), least_web(other))[0], "same")
            self.assertEqual(len(all_turnings(own)), len(all_turnings(other)))
            self.assertEqual((levels(own)[0], longest(own)), (levels(other)[0], longest(other)))
            self.assertEqual(hue_poly(own), hue_poly(other))
            self.assertEqual(hues_told(own)[0], hues_told(other)[0])
            # And backwards, what is told of both directions alike.
            self.assertEqual((levels(own)[0], longest(own)), (levels(backwards(own))[0], longest(backwards(own))))
            self.assertEqual(hue_poly(own), hue_poly(backwards(own)))


class Together(Promise):
    """Points that tell the same by other ways tell the same."""

    def test_holder_and_desk(self):
        for W, V in itertools.product(SMALL[::2] + NAMED[:3], SMALL[::3] + NAMED[:2]):
            holder, desk = Holder(W, V), Desk(W, V)
            found = all_led(W, V)
            self.assertEqual((holder.count(), desk.say("count")), (len(found), str(len(found))))
            self.assertEqual(desk.say("ask"), "yes" if found else "none")
            for a, x in itertools.product(range(W[0]), range(V[0])):
                holder.push()
                holder.hold(a, x)
                self.assertEqual(holder.count(), len([f for f in found if f[a] == x]))
                holder.pop()

    def test_hues_by_counts(self):
        for own in SMALL + NAMED + some_webs(819, 20, 4):
            for k in range(5):
                self.assertEqual(value_at(hue_poly(own), k), count(own, all_web(k), full_lists(own, all_web(k))))

    def test_rounds_by_counts(self):
        for own in SMALL + NAMED:
            for k in range(1, 5):
                many = count(own, round_web(k), full_lists(own, round_web(k)))
                self.assertEqual(many > 0, round_told(own, k)[0] == "leading")
                self.assertEqual(many > 0, math.gcd(levels(own)[0], k) == k)


if __name__ == "__main__":
    unittest.main()
