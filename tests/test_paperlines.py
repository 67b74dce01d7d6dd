"""Point [80]: none papers as lines, and lines as none papers."""

import random
import unittest

from helper import Promise, all_led, paper_due, refusal_due, some_lists, some_paper, some_webs, web
from webintoweb.errors import NoText
from webintoweb.families import all_web, round_web
from webintoweb.finding import led
from webintoweb.leadings import full_lists
from webintoweb.nonechecker import lets_none
from webintoweb.paperlines import paper_lines, read_paper

PAPER = ((), ("cases", 0, (
    (((1, 0, 0, "in"), (2, 0, 0, "out"), (1, 1, 2, "out")), ("void", 1)),
    (((1, 1, 0, "in"), (2, 1, 0, "out"), (2, 0, 1, "in")), ("void", 2)))))
LINES = ["cases 0 2", "strike 1 0 0 in", "strike 2 0 0 out", "strike 1 1 2 out", "void 1",
         "strike 1 1 0 in", "strike 2 1 0 out", "strike 2 0 1 in", "void 2"]


class Lines(Promise):
    def test_by_hand(self):
        self.tells(LINES, paper_lines, PAPER)
        self.tells(["void 0"], paper_lines, ((), ("void", 0)))
        self.tells(["cases 3 0"], paper_lines, ((), ("cases", 3, ())))
        self.tells(["strike 1 2 3 in", "cases 12 1", "void 63"],
                   paper_lines, (((1, 2, 3, "in"),), ("cases", 12, (((), ("void", 63)),))))
        # Parts within parts, one behind another.
        void = [((), ("void", k)) for k in range(5)]
        self.tells(["cases 0 3", "void 0", "cases 1 2", "void 1", "void 2", "void 3"],
                   paper_lines, ((), ("cases", 0, (void[0], ((), ("cases", 1, (void[1], void[2]))), void[3]))))

    def test_they_undo_one_another(self):
        chance = random.Random(750)
        many = 0
        for W, V in zip(some_webs(751, 150, 4), some_webs(752, 150, 3)):
            lists = some_lists(chance, W, V, 8)
            if W[0] and not all_led(W, V, lists):
                for paper in (some_paper(chance, W, V, lists), led(W, V, lists)[1]):
                    lines = self.told(paper_lines, paper)
                    self.assertEqual((type(lines), {type(line) for line in lines}), (list, {str}))
                    self.tells(paper, read_paper, lines)
                    self.assertEqual(paper_due(lines), paper)
                    self.assertIsNone(refusal_due(W, V, lists, read_paper(lines)))
                    many += 1
        self.assertGreater(many, 60)

    def test_papers_that_are_great(self):
        W, V = all_web(6), all_web(5)
        paper = led(W, V, full_lists(W, V))[1]
        lines = paper_lines(paper)
        self.assertGreater(len(lines), 1000)
        self.tells(paper, read_paper, lines)
        self.tells(True, lets_none, W, V, full_lists(W, V), read_paper(lines))


class Read(Promise):
    def as_due(self, lines):
        due = paper_due(lines)
        if isinstance(due, tuple):
            self.tells(due, read_paper, lines)
            self.tells(lines, paper_lines, due)
            return "read"
        self.refuses(NoText, tuple(due), read_paper, lines)
        return due[1]

    def refused(self, row, word, lines):
        self.refuses(NoText, (row, word), read_paper, lines)
        self.assertEqual(paper_due(lines), [row, word])

    def test_right_or_not(self):
        self.tells(PAPER, read_paper, LINES)
        self.tells(((), ("void", 999)), read_paper, ["void 999"])
        self.tells((((999, 0, 100, "in"),), ("cases", 10, ())), read_paper, ["strike 999 0 100 in", "cases 10 0"])
        self.tells(((), ("cases", 7, (((), ("void", 7)),) * 99)), read_paper, ["cases 7 99"] + ["void 7"] * 99)

    def test_no_lines_and_lines_that_lack(self):
        self.refused(0, 0, [])
        self.refused(1, 0, ["strike 0 0 0 in"])
        self.refused(1, 0, ["cases 0 1"])
        self.refused(1, 0, ["cases 0 999"])
        self.refused(3, 0, ["cases 0 2", "void 0", "strike 0 0 0 out"])
        for many in range(len(LINES)):
            self.refused(many, 0, LINES[:many])

    def test_a_line_behind_the_end(self):
        for line in ("void 0", "", "strike 0 0 0 in", "cases 0 0", "x", "void 00", " "):
            self.refused(1, 0, ["void 0", line])
            self.refused(1, 0, ["cases 0 0", line])
            self.refused(len(LINES), 0, LINES + [line])
            self.refused(1, 0, ["void 0", line, "void"])

    def test_words(self):
        for line, word in [
            ("", 0), (" ", 0), ("void", 1), ("void ", 1), (" void 0", 0), ("void  0", 1), ("void 0 ", 2), ("void 0 0", 2), ("Void 0", 0),
            ("VOID 0", 0), ("void x", 1), ("void -1", 1), ("void +1", 1), ("void 00", 1), ("void 01", 1), ("void 1000", 1), ("void 0010", 1),
            ("void 1.0", 1), ("void 1_0", 1), ("void -", 1), ("void 0\n", 1), ("\nvoid 0", 0), ("void\n0", 0), ("void 12345678901234567890", 1),
            ("cases", 1), ("cases 0", 2), ("cases 0 ", 2), ("cases 0 0 0", 3), ("cases 0 x", 2), ("cases x 0", 1), ("cases 0 1000", 2),
            ("cases 0 01", 2), ("cases 01 0", 1), ("cases 0 -1", 2), ("cases 0 0 ", 3), ("cases  0 0", 1), ("cases,0 0", 0), ("case 0 0", 0),
            ("strike", 1), ("strike 0", 2), ("strike 0 0", 3), ("strike 0 0 0", 4), ("strike 0 0 0 ", 4), ("strike 0 0 0 out 0", 5),
            ("strike 0 0 0 out ", 5), ("strike 0 0 0 else", 4), ("strike 0 0 0 Out", 4), ("strike 0 0 0 0", 4), ("strike 0 0 out 0", 3),
            ("strike x 0 0", 1), ("strike 0 x", 2), ("strike 0 0 00 out", 3), ("strike 1000 0 0 out", 1), ("strike 0 1000 0 out", 2),
            ("strike 0 0 1000 in", 3), ("strike 0 0 0 in in", 5), ("strikes 0 0 0 in", 0), ("strike,0 0 0 in", 0), ("strike 0 0 0 ou", 4),
        ]:
            for ahead in ([], ["strike 0 0 0 in"], ["cases 0 2", "void 0"], LINES[:4]):
                self.refused(len(ahead), word, ahead + [line])
                self.refused(len(ahead), word, ahead + [line, "void 0", "x"])

    def test_lines_and_words_left_out_put_in_twice_and_otherwise(self):
        chance = random.Random(753)
        told = []
        for lines in (LINES, ["void 0"], ["cases 1 0"], paper_lines(led(round_web(5), all_web(2), ((0, 1),) * 5)[1])):
            for row, line in enumerate(lines):
                words = line.split(" ")
                others = [[], [line, line], ["void 0", line], [line, "void 0"], ["cases 0 1", line], ["strike 0 0 0 in", line], [""]]
                for at in range(len(words)):
                    for new in ([], words[at:at + 1] * 2, [""], ["0"], ["7"], ["999"], ["1000"], ["00"], ["out"], ["in"], ["void"]):
                        others.append([" ".join(words[:at] + new + words[at + 1:])])
                for new in others:
                    told.append(self.as_due(lines[:row] + new + lines[row + 1:]))
            for _ in range(60):
                told.append(self.as_due(chance.sample(lines, chance.randrange(len(lines) + 1))))
        self.assertTrue(all(told.count(due) > 20 for due in ("read", 0, 1, 2, 3, 4, 5)))

    def test_a_hundred_lines_that_go_into_one_another(self):
        lines = ["cases 0 1"] * 99 + ["void 0"]
        paper = ((), ("void", 0))
        for _ in range(99):
            paper = ((), ("cases", 0, (paper,)))
        self.assertEqual(self.shallow(read_paper, lines), paper)
        self.assertEqual(self.shallow(paper_lines, paper), lines)
        self.refused(100, 0, ["cases 0 1"] * 100)
        self.assertIs(self.shallow(lets_none, web(1), web(1), ((),), ((), ("cases", 0, ()))), True)


if __name__ == "__main__":
    unittest.main()
