"""Point [79]: a holder."""

import itertools
import random
import unittest

from helper import Model, Promise, all_led, closed_lists, some_web, web
from webintoweb.errors import NoHold, NoLevel
from webintoweb.families import all_web, line_web, round_web
from webintoweb.holder import Holder
from webintoweb.nonechecker import lets_none

VOID, ONE, LOOP = web(0), web(1), web(1, (0, 0))
TIE, R2, R3 = web(2, (0, 1)), round_web(2), round_web(3)


class Held(Promise):
    def is_as(self, holder, model):
        """All that the holder tells is as of the web and lists of now."""
        W, lists = model.state
        self.tells(W, holder.web)
        self.tells(lists, holder.lists)
        self.tells(len(model.pushed), holder.level)
        self.tells(closed_lists(W, model.V, lists), holder.closed_lists)
        found = all_led(W, model.V, lists)
        self.tells(len(found), holder.count)
        told = self.told(holder.answer)
        self.assertEqual((type(told), len(told)), (tuple, 2))
        if found:
            self.assertEqual(told[0], "leading")
            self.assertIn(repr(told[1]), map(repr, found))
        else:
            self.assertEqual(told[0], "none")
            self.tells(True, lets_none, W, model.V, lists, told[1])

    def do(self, holder, model, deed, *told):
        due = model.do(deed, *told)
        if due is None:
            self.assertIs(getattr(holder, deed)(*told), None)
        else:
            self.refuses(*due, getattr(holder, deed), *told)
        self.is_as(holder, model)
        return due

    def made(self, W, V):
        holder, model = Holder(W, V), Model(W, V)
        self.is_as(holder, model)
        return holder, model


class Deeds(Held):
    def test_as_made(self):
        for W, V in itertools.product([VOID, ONE, LOOP, TIE, R3, all_web(4)], [VOID, ONE, LOOP, R2, line_web(4)]):
            holder, model = self.made(W, V)
            self.tells(W, holder.web)
            self.tells(((*range(V[0]),),) * W[0], holder.lists)
            self.tells(0, holder.level)
            self.do(holder, model, "pop")
            self.do(holder, model, "push")
            self.do(holder, model, "pop")
            self.do(holder, model, "pop")

    def test_hold_and_bar(self):
        holder, model = self.made(R3, all_web(3))
        self.assertIsNone(self.do(holder, model, "hold", 0, 1))
        self.tells(((1,), (0, 1, 2), (0, 1, 2)), holder.lists)
        self.tells(((1,), (0, 2), (0, 2)), holder.closed_lists)
        self.tells(2, holder.count)
        # Held again it stays; what doesn't stand there is refused.
        self.assertIsNone(self.do(holder, model, "hold", 0, 1))
        self.assertIsNotNone(self.do(holder, model, "hold", 0, 0))
        self.assertIsNotNone(self.do(holder, model, "bar", 0, 2))
        self.assertIsNone(self.do(holder, model, "bar", 1, 2))
        self.assertIsNotNone(self.do(holder, model, "bar", 1, 2))
        self.assertIsNotNone(self.do(holder, model, "hold", 1, 2))
        self.tells(((1,), (0, 1), (0, 1, 2)), holder.lists)
        self.tells(("leading", (1, 0, 2)), holder.answer)
        self.assertIsNone(self.do(holder, model, "bar", 1, 0))
        self.tells(0, holder.count)
        self.assertIsNone(self.do(holder, model, "bar", 1, 1))
        self.tells(((1,), (), (0, 1, 2)), holder.lists)
        for x in range(3):
            self.refuses(NoHold, (1, x), holder.hold, 1, x)
            self.refuses(NoHold, (1, x), holder.bar, 1, x)
        # A list that is void stays so: nothing brings back what is out but pop.
        self.assertIsNone(self.do(holder, model, "bar", 0, 1))

    def test_tie_and_untie(self):
        holder, model = self.made(TIE, all_web(2))
        self.refuses(NoHold, (0, 1), holder.tie, 0, 1)
        self.refuses(NoHold, (1, 0), holder.untie, 1, 0)
        self.refuses(NoHold, (1, 1), holder.untie, 1, 1)
        self.assertIsNone(self.do(holder, model, "tie", 1, 0))
        self.tells(R2, holder.web)
        self.tells(2, holder.count)
        self.assertIsNone(self.do(holder, model, "tie", 0, 0))
        self.tells(web(2, (0, 0), (0, 1), (1, 0)), holder.web)
        self.tells(0, holder.count)
        self.refuses(NoHold, (0, 0), holder.tie, 0, 0)
        self.assertIsNone(self.do(holder, model, "untie", 0, 0))
        self.assertIsNone(self.do(holder, model, "untie", 0, 1))
        self.assertIsNotNone(self.do(holder, model, "untie", 0, 1))
        self.assertIsNone(self.do(holder, model, "untie", 1, 0))
        self.tells(web(2), holder.web)
        self.tells(4, holder.count)

    def test_push_and_pop(self):
        holder, model = self.made(R3, all_web(3))
        self.refuses(NoLevel, (), holder.pop)
        self.do(holder, model, "push")
        self.do(holder, model, "hold", 0, 2)
        self.do(holder, model, "push")
        self.do(holder, model, "untie", 0, 1)
        self.do(holder, model, "bar", 1, 0)
        self.do(holder, model, "push")
        self.do(holder, model, "push")
        self.tells(4, holder.level)
        self.do(holder, model, "tie", 2, 2)
        self.do(holder, model, "pop")
        self.tells(web(3, (1, 2), (2, 0)), holder.web)
        self.do(holder, model, "pop")
        self.do(holder, model, "pop")
        self.tells((R3, ((2,), (0, 1, 2), (0, 1, 2))), lambda: (holder.web(), holder.lists()))
        self.do(holder, model, "pop")
        self.tells(((0, 1, 2),) * 3, holder.lists)
        for _ in range(3):
            self.assertIsNotNone(self.do(holder, model, "pop"))

    def test_many_levels(self):
        holder = Holder(R3, all_web(3))
        for _ in range(300):
            holder.push()
        self.tells(300, holder.level)
        holder.hold(0, 0)
        for _ in range(300):
            holder.pop()
        self.tells(((0, 1, 2),) * 3, holder.lists)
        self.refuses(NoLevel, (), holder.pop)

    def test_deeds_of_all_sorts(self):
        chance = random.Random(760)
        dues = []
        for _ in range(60):
            W, V = some_web(chance, chance.randrange(5), 4), some_web(chance, chance.randrange(4), 6)
            holder, model = self.made(W, V)
            for _ in range(20):
                deed = chance.choice(["hold", "bar", "bar", "tie", "untie", "push", "pop"])
                told = ()
                if deed in ("tie", "untie"):
                    told = (chance.randrange(W[0] or 1), chance.randrange(W[0] or 1))
                elif deed in ("hold", "bar"):
                    told = (chance.randrange(W[0] or 1), chance.randrange(V[0] or 1))
                if W[0] and (V[0] or deed not in ("hold", "bar")) or not told:
                    due = self.do(holder, model, deed, *told)
                    dues.append((deed, due is None))
        for deed, done in itertools.product(["hold", "bar", "tie", "untie", "pop"], [True, False]):
            self.assertGreater(dues.count((deed, done)), 10, (deed, done))

    def test_six_places_into_four(self):
        chance = random.Random(761)
        for _ in range(4):
            holder, model = self.made(some_web(chance, 6, 2), some_web(chance, 4, 6))
            for deed in [("hold", 0, 0), ("push",), ("tie", 5, 0), ("bar", 3, 2), ("untie", 5, 0), ("pop",), ("bar", 5, 3)]:
                self.do(holder, model, *deed)


class Own(Held):
    def test_two_holders_are_nothing_to_one_another(self):
        one, other = self.made(R3, all_web(3)), self.made(R3, all_web(3))
        self.do(*one, "push")
        self.do(*one, "hold", 0, 1)
        self.do(*one, "untie", 0, 1)
        self.is_as(*other)
        self.do(*other, "pop")
        self.do(*other, "bar", 0, 1)
        self.is_as(*one)

    def test_nothing_hangs_on_how_they_came_there(self):
        one, other = Holder(TIE, all_web(3)), Holder(web(2), all_web(3))
        one.push()
        one.hold(1, 2)
        one.pop()
        one.bar(0, 0)
        one.push()
        other.bar(0, 0)
        other.tie(0, 1)
        for asked in ("web", "lists", "closed_lists", "count", "answer"):
            self.same(getattr(one, asked)(), getattr(other, asked)())

    def test_what_was_told_stays(self):
        holder = Holder(R3, all_web(3))
        told = [holder.web(), holder.lists(), holder.level(), holder.closed_lists(), holder.count(), holder.answer()]
        kept = repr(told)
        holder.push()
        holder.hold(0, 0)
        holder.untie(0, 1)
        self.assertEqual(repr(told), kept)


if __name__ == "__main__":
    unittest.main()
