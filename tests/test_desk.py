"""Point [81]: a desk, row by row."""

import itertools
import random
import unittest

from helper import Model, Promise, all_led, closed_lists, paper_due, refusal_due, some_paper, some_web, web
from webintoweb.desk import Desk
from webintoweb.errors import NoHold, NoLevel, NoRow
from webintoweb.families import all_web, line_web, round_web
from webintoweb.finding import led
from webintoweb.paperlines import paper_lines

VOID, ONE, LOOP = web(0), web(1), web(1, (0, 0))
TIE, R2, R3 = web(2, (0, 1)), round_web(2), round_web(3)
ALL_ROWS = ("push", "pop", "level", "count", "ask", "lists", "closed")


def lists_text(lists):
    return " ".join(".".join(map(str, places)) or "-" for places in lists) or "-"


def answer_due(model, row):
    """The answer that is due, or the refusal and its fields, by the very words of the document; deeds are done."""
    (W, lists), V = model.state, model.V
    word, *told = row.split(" ")

    def numbers(*bounds):
        return len(told) == len(bounds) and all(
            word.isdigit() and len(word) < 4 and str(int(word)) == word and int(word) < bound
            for word, bound in zip(told, bounds))

    whole = tuple(int(word) if word.isdigit() else None for word in told)
    if word in ALL_ROWS and not told:
        if word in ("push", "pop"):
            return model.do(word) or "ok"
        found = all_led(W, V, lists)
        return {"level": str(len(model.pushed)), "count": str(len(found)), "ask": "yes" if found else "none",
                "lists": lists_text(lists), "closed": lists_text(closed_lists(W, V, lists))}[word]
    if word in ("hold", "bar") and numbers(W[0], V[0]) or word in ("tie", "untie") and numbers(W[0], W[0]):
        return model.do(word, *whole) or "ok"
    if word == "led" and numbers(*[V[0]] * W[0]):
        return "yes" if whole in all_led(W, V, lists) else "no"
    if word == "judge" and told:
        paper = paper_due(row[6:].split(", "))
        if isinstance(paper, tuple):
            due = refusal_due(W, V, lists, paper)
            return f"wrong {due[1]}" if due else "right"
    return (NoRow, (row,))


class Asking(Promise):
    def made(self, W, V):
        return Desk(W, V), Model(W, V)

    def say(self, desk, model, row):
        due = answer_due(model, row)
        if isinstance(due, str):
            told = desk.say(row)
            self.assertIs(type(told), str)
            self.assertEqual(told, due, row)
        else:
            kind, fields = due
            self.refuses(kind, fields, desk.say, row)
        return due

    def is_as(self, desk, model):
        for row in ("lists", "level", "count", "closed", "ask"):
            self.say(desk, model, row)

    def no_row(self, desk, model, row):
        """It is no row, and nothing is changed by it."""
        self.assertEqual(self.say(desk, model, row), (NoRow, (row,)), row)
        self.is_as(desk, model)


class Rows(Asking):
    def test_sign_by_sign(self):
        desk, model = self.made(R3, all_web(3))
        for row, answer in [
            ("level", "0"), ("count", "6"), ("ask", "yes"), ("lists", "0.1.2 0.1.2 0.1.2"), ("closed", "0.1.2 0.1.2 0.1.2"),
            ("push", "ok"), ("level", "1"), ("hold 0 1", "ok"), ("lists", "1 0.1.2 0.1.2"), ("closed", "1 0.2 0.2"), ("count", "2"),
            ("led 1 0 2", "yes"), ("led 1 0 0", "no"), ("led 0 1 2", "no"), ("bar 1 0", "ok"), ("bar 1 2", "ok"), ("lists", "1 1 0.1.2"),
            ("closed", "- - -"), ("ask", "none"), ("count", "0"), ("judge strike 0 1 1 out, void 0", "right"),
            ("judge void 0", "wrong void"), ("judge strike 0 1 1 in, void 0", "wrong strike"), ("judge cases 0 0", "wrong parts"),
            ("judge void 3", "wrong shape"), ("judge void 999", "wrong shape"), ("judge cases 999 0", "wrong shape"),
            ("judge cases 2 3, strike 0 1 1 out, void 0, strike 1 1 0 in, void 1, strike 0 1 1 out, cases 0 0", "right"),
            ("judge cases 2 3, strike 0 1 1 out, void 0, void 1, strike 0 1 1 out, cases 0 0", "wrong void"),
            ("untie 0 1", "ok"), ("ask", "yes"), ("led 1 1 0", "yes"), ("tie 0 1", "ok"), ("bar 1 1", "ok"), ("lists", "1 - 0.1.2"),
            ("judge void 1", "right"), ("pop", "ok"), ("lists", "0.1.2 0.1.2 0.1.2"), ("level", "0"), ("tie 2 2", "ok"), ("ask", "none"),
            ("closed", "0.1.2 0.1.2 0.1.2"), ("led 2 0 1", "no"), ("untie 2 2", "ok"), ("led 2 0 1", "yes"),
        ]:
            self.assertEqual(self.say(desk, model, row), answer, row)

    def test_refused_as_the_holder_refuses(self):
        desk, model = self.made(TIE, all_web(2))
        for row, due in [
            ("pop", (NoLevel, ())), ("tie 0 1", (NoHold, (0, 1))), ("untie 1 0", (NoHold, (1, 0))), ("hold 0 1", "ok"),
            ("hold 0 0", (NoHold, (0, 0))), ("bar 0 0", (NoHold, (0, 0))), ("bar 0 1", "ok"), ("bar 0 1", (NoHold, (0, 1))),
            ("push", "ok"), ("pop", "ok"), ("pop", (NoLevel, ())), ("untie 0 1", "ok"), ("untie 0 1", (NoHold, (0, 1))),
        ]:
            self.assertEqual(self.say(desk, model, row), due)
            self.is_as(desk, model)

    def test_rows_that_are_none(self):
        desk, model = self.made(TIE, all_web(3))
        desk.say("bar 0 1")
        model.do("bar", 0, 1)
        for row in [
            "", " ", "x", "hold", "hold 0", "hold 0 0 0", "hold 2 0", "hold 0 3", "hold 0 00", "hold 00 0", "hold 0 01", "hold -1 0",
            "hold 0 x", "hold  0 0", "hold 0  0", "hold 0 0 ", " hold 0 0", "Hold 0 0", "HOLD 0 0", "hold 0,0", "hold 0 +0", "hold 1000 0",
            "hold 0 0\n", "hold\n0 0", "hold 0 1.0", "bar", "bar 0", "bar 2 0", "bar 0 3", "bar 0 0 0", "Bar 0 0", "bar 0 ", "bar 00 0",
            "tie 0", "tie 0 2", "tie 2 0", "tie 0 0 0", "tie", "tie 0 ", "Tie 0 0", "tie 0 00", "untie", "untie 0 2", "untie 0", "untie 0 1 ",
            "untie 2 1", "untie 0 1 0", "push 0", "push ", " push", "PUSH", "Push", "pop 1", "pop ", " pop", "Pop", "level 0", "level ",
            "Level", "count 1", "count ", "COUNT", "ask ", "ask 0", "Ask", "lists ", "lists 0", "list", "Lists", "closed 0", "closed ", "close",
            "led", "led 0", "led 0 0 0", "led 0 3", "led 0 00", "led  0 0", "led 0 0 ", "led 0 x", "Led 0 0", "led 0,0", "led 0  0", "led ",
            "judge", "judge ", "judge void", "judge void x", "judge void 1000", "judge void 00", "judge void 0 0", "judge void 0,",
            "judge void 0, ", "judge void 0, void 0", "judge void 0,void 0", "judge  void 0", "judge void 0 ", "Judge void 0", "judge Void 0",
            "judge cases 0 1", "judge cases 0 1,void 0", "judge cases 0 1,  void 0", "judge cases 0 1 , void 0", "judge cases 0 2, void 0",
            "judge strike 0 0 0 out", "judge strike 0 0 0 else, void 0", "judge strike 0 0 0, void 0", "judge strike 0 0 0 out void 0",
            "judge strike 0 0 1000 out, void 0", "judge , void 0", "judge right", "judgevoid 0", "answer", "web", "closed_lists", "say", "-",
            "hold 0 0, bar 0 0", "ok", "pop push", "judge cases 0 1000", "judge cases 0 01, void 0",
        ]:
            self.no_row(desk, model, row)

    def test_no_row_ahead_of_all_else(self):
        # At level 0, and of what doesn't stand or is there already: no row, all the same.
        desk, model = self.made(TIE, all_web(2))
        for row in ("pop ", "pop 0", "tie 0 1 ", "tie 00 1", "untie 1 00", "hold 0 2"):
            self.no_row(desk, model, row)
        self.say(desk, model, "hold 0 0")
        self.no_row(desk, model, "hold 0 01")
        self.no_row(desk, model, "bar 0 1 1")

    def test_webs_without_places(self):
        for V in (VOID, ONE, all_web(3)):
            desk, model = self.made(VOID, V)
            for row, answer in [("lists", "-"), ("closed", "-"), ("count", "1"), ("ask", "yes"), ("led", "yes"), ("level", "0"),
                                ("push", "ok"), ("level", "1"), ("pop", "ok"), ("judge void 0", "wrong shape"),
                                ("judge cases 0 0", "wrong shape")]:
                self.assertEqual(self.say(desk, model, row), answer)
            for row in ("led ", "led 0", "hold 0 0", "bar 0 0", "tie 0 0", "untie 0 0", "led -", "hold", "judge", "judge -"):
                self.no_row(desk, model, row)
        for W in (ONE, LOOP, R3):
            desk, model = self.made(W, VOID)
            for row, answer in [("lists", " ".join("-" * W[0])), ("closed", " ".join("-" * W[0])), ("count", "0"), ("ask", "none"),
                                ("judge void 0", "right"), ("judge cases 0 0", "right"), ("judge strike 0 0 0 in, void 0", "wrong shape")]:
                self.assertEqual(self.say(desk, model, row), answer)
            for row in ("led", "led" + " 0" * W[0], "hold 0 0", "bar 0 0"):
                self.no_row(desk, model, row)

    def test_rows_of_all_sorts(self):
        chance = random.Random(770)
        words = {}
        for _ in range(150):
            W, V = some_web(chance, chance.randrange(5), 4), some_web(chance, chance.randrange(1, 4), 5)
            desk, model = self.made(W, V)
            for _ in range(25):
                row = self.some_row(chance, model)
                due = self.say(desk, model, row)
                key = (row.split(" ")[0], due if isinstance(due, str) else due[0].__name__)
                words[key] = words.get(key, 0) + 1
        for key in [("hold", "ok"), ("hold", "NoHold"), ("hold", "NoRow"), ("bar", "ok"), ("bar", "NoHold"), ("tie", "ok"),
                    ("tie", "NoHold"), ("untie", "ok"), ("untie", "NoHold"), ("push", "ok"), ("pop", "ok"), ("pop", "NoLevel"),
                    ("ask", "yes"), ("ask", "none"), ("led", "yes"), ("led", "no"), ("judge", "right"), ("judge", "wrong void"),
                    ("judge", "wrong shape"), ("judge", "wrong strike"), ("judge", "NoRow")]:
            self.assertGreater(words.get(key, 0), 2, key)

    def some_row(self, chance, model):
        """A row as anyone might say it."""
        (W, lists), V = model.state, model.V
        word = chance.choice(ALL_ROWS + ("hold", "bar", "tie", "untie", "led", "judge", "judge"))
        told = []
        if word in ("hold", "bar"):
            told = [chance.randrange(W[0] + 1), chance.randrange(V[0])]
        elif word in ("tie", "untie"):
            told = [chance.randrange(W[0] or 1), chance.randrange(W[0] or 1)]
        elif word == "led":
            found = all_led(W, V, lists)
            told = chance.choice(found) if found and chance.randrange(2) else [chance.randrange(V[0]) for _ in range(W[0])]
        elif word == "judge":
            if W[0] and not all_led(W, V, lists):
                paper = chance.choice([some_paper(chance, W, V, lists), led(W, V, lists)[1]])
            else:
                paper = ((), ("void", chance.randrange(W[0] + 1)))
            lines = paper_lines(paper)
            at = chance.randrange(len(lines))
            if not chance.randrange(3):
                words = lines[at].split(" ")
                words[chance.randrange(len(words))] = chance.choice(["0", "1", "2", "0", "1", "out", "in", "void", ""])
                lines[at] = " ".join(words)
            told = [", ".join(lines)]
        return " ".join(map(str, [word, *told]))

    def test_papers_of_the_greatest_webs(self):
        W, V = all_web(5), all_web(4)
        desk, model = self.made(W, V)
        row = "judge " + ", ".join(paper_lines(led(W, V, ((0, 1, 2, 3),) * 5)[1]))
        self.assertEqual(self.say(desk, model, row), "right")
        self.assertEqual(self.say(desk, model, "hold 0 0"), "ok")
        self.assertTrue(self.say(desk, model, row).startswith("wrong"))

    def test_rows_of_six_thousand_signs(self):
        desk = Desk(LOOP, ONE)
        deep = "judge " + "cases 0 1, " * 540
        self.assertEqual(self.shallow(desk.say, deep + "strike 0 0 0 in, void 0"), "right")
        self.assertEqual(self.shallow(desk.say, deep + "void 0"), "wrong void")
        for row in (deep, deep + "void", deep + "void 0, void 0", "hold" + " 0" * 2900, "x" * 6000, " " * 6000, "judge" * 1200):
            self.refuses(NoRow, (row,), desk.say, row)


class Own(Asking):
    def test_two_desks_are_nothing_to_one_another(self):
        one, other = self.made(R3, all_web(3)), self.made(R3, all_web(3))
        for row in ("hold 0 1", "push", "bar 1 0", "untie 0 1"):
            self.say(*one, row)
            self.is_as(*other)
        self.assertEqual(self.say(*other, "pop"), (NoLevel, ()))

    def test_each_small_web(self):
        for W, V in itertools.product([VOID, ONE, LOOP, TIE, R2], [VOID, ONE, LOOP, TIE, R2, line_web(4)]):
            desk, model = self.made(W, V)
            self.is_as(desk, model)
            for f in itertools.product(range(V[0]), repeat=W[0]):
                self.say(desk, model, " ".join(["led", *map(str, f)]))


if __name__ == "__main__":
    unittest.main()
