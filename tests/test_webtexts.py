"""Points [22] and [23]: webs written and read."""

import unittest

from helper import Promise, all_webs, some_webs, web
from webintoweb.errors import NoText
from webintoweb.families import all_web, line_web, round_web
from webintoweb.webtexts import read, shown

SMALL = web(12, (0, 0), (0, 2), (0, 11), (2, 10), (11, 0), (11, 1))
WRITTEN = ["web 12", "0 > 0 2 11", "2 > 10", "11 > 0 1"]


class Shown(Promise):
    def test_by_hand(self):
        self.tells(["web 0"], shown, web(0))
        self.tells(["web 1"], shown, web(1))
        self.tells(["web 1", "0 > 0"], shown, web(1, (0, 0)))
        self.tells(WRITTEN, shown, SMALL)
        self.tells(["web 64", "63 > 63"], shown, web(64, (63, 63)))

    def test_a_told_list_is_the_askers_own(self):
        one = shown(SMALL)
        one.clear()
        self.same(shown(SMALL), WRITTEN)


class Read(Promise):
    def test_by_hand(self):
        self.tells(SMALL, read, WRITTEN)
        self.tells(web(0), read, ["web 0"])
        self.tells(web(10), read, ["web 10"])
        self.tells(web(64), read, ["web 64"])
        self.tells(web(64, (63, 0), (63, 63)), read, ["web 64", "63 > 0 63"])

    def test_what_is_written_is_read_as_it_was(self):
        great = [all_web(24), line_web(24), round_web(24), round_web(1)]
        for one in all_webs(0) + all_webs(1) + all_webs(2) + some_webs(50, 40, 8) + great:
            self.tells(one, read, self.told(shown, one))

    def refused(self, row, word, lines):
        self.refuses(NoText, (row, word), read, lines)

    def test_no_lines(self):
        self.refused(0, 0, [])

    def test_the_first_line(self):
        for word, line in [
            (0, ""), (0, " "), (0, "  "), (0, "w"), (0, "Web 3"), (0, "WEB 3"), (0, "webs 3"), (0, "3"), (0, "0 > 1"),
            (0, " web 3"), (0, "web3"), (0, "3 web"), (0, "- web"),
            (1, "web"), (1, "web "), (1, "web  "), (1, "web  3"), (1, "web 65"), (1, "web 640"), (1, "web 100"),
            (1, "web -1"), (1, "web +3"), (1, "web 03"), (1, "web 00"), (1, "web 007"), (1, "web 3.0"), (1, "web x"),
            (1, "web 3x"), (1, "web 1_0"), (1, "web web"), (1, "web 3,"), (1, "web " + "9" * 1990), (1, "web 065 4"),
            (1, "web " + "0" * 1990), (1, "web >"), (1, "web 65 1"),
            (2, "web 3 "), (2, "web 3 3"), (2, "web 3  "), (2, "web 3 > 1"), (2, "web 64 "), (2, "web 0 x y"),
        ]:
            self.refused(0, word, [line])
            self.refused(0, word, [line, "0 > 1"])
            self.refused(0, word, [line, ""])

    def test_the_place_of_a_line(self):
        for line in [
            "", " ", "  ", "> 1", "x > 1", "web 3", "3 > 1", "64 > 1", "-1 > 1", "00 > 1", "01 > 1", " 0 > 1",
            "0> 1", "0>1", "+0 > 1", "0, > 1", "9" * 1990, "3",
        ]:
            self.refused(1, 0, ["web 3", line])
            self.refused(1, 0, ["web 3", line, "2 > 2"])
        self.refused(1, 0, ["web 0", "0 > 0"])
        self.refused(1, 0, ["web 0", ""])

    def test_the_sign_of_a_line(self):
        for line in ["0", "0 ", "0  > 1", "0 < 1", "0 1", "0 >1", "0 >> 1", "0 - 1", "0 0 > 1"]:
            self.refused(1, 1, ["web 3", line])

    def test_the_outs_of_a_line(self):
        for word, line in [
            (2, "0 >"), (2, "0 > "), (2, "0 >  "), (2, "0 >  1"), (2, "0 > 3"), (2, "0 > -1"), (2, "0 > 01"),
            (2, "0 > 00"), (2, "0 > x"), (2, "0 > >"), (2, "0 > 1,2"), (2, "0 > 10"), (2, "0 > " + "1" * 1990),
            (3, "0 > 0 "), (3, "0 > 0 0"), (3, "0 > 1 0"), (3, "0 > 2 1"), (3, "0 > 0  1"), (3, "0 > 0 3"),
            (3, "0 > 0 01"), (3, "0 > 1 > 2"), (3, "0 > 1 1 2"),
            (4, "0 > 0 1 "), (4, "0 > 0 1 1"), (4, "0 > 0 2 1"), (4, "0 > 1 2 0"), (4, "0 > 0 1 3"), (4, "0 > 0 1 02"),
            (5, "0 > 0 1 2 "), (5, "0 > 0 1 2 3"),
        ]:
            self.refused(1, word, ["web 3", line])

    def test_places_rise_from_line_to_line(self):
        self.tells(web(3, (0, 2), (2, 0)), read, ["web 3", "0 > 2", "2 > 0"])
        self.refused(2, 0, ["web 3", "0 > 2", "0 > 2"])
        self.refused(2, 0, ["web 3", "1 > 2", "0 > 2"])
        self.refused(3, 0, ["web 3", "0 > 0", "2 > 2", "1 > 1"])
        self.refused(4, 0, ["web 3", "0 > 0", "1 > 0", "2 > 0", "3 > 0"])
        self.refused(4, 0, ["web 3", "0 > 0", "1 > 0", "2 > 0", ""])
        self.refused(4, 0, ["web 3", "0 > 0", "1 > 0", "2 > 0", "2 > 1"])

    def test_the_first_line_that_is_amiss_counts(self):
        self.refused(1, 2, ["web 3", "0 >", "x"])
        self.refused(2, 2, ["web 3", "0 > 1", "1 > 5 x", "0"])
        self.refused(0, 2, ["web 3 3", "x"])
        self.refused(0, 0, ["", "x"])
        # A line that can't stand is no line ahead by which a later one would be told.
        self.refused(1, 0, ["web 3", "x > 1", "0 > 1"])

    def test_the_first_word_that_is_amiss_counts(self):
        self.refused(1, 0, ["web 3", "3 < 5"])
        self.refused(1, 1, ["web 3", "0 < 5"])
        self.refused(1, 2, ["web 3", "0 > 5 x 1"])
        self.refused(0, 0, ["x 65 1"])

    def test_a_hundred_lines(self):
        lines = ["web 64"] + [f"{a} > {a}" for a in range(64)]
        self.tells((64, tuple((a, a) for a in range(64))), read, lines)
        self.refused(65, 0, lines + ["63 > 63"] * 35)


if __name__ == "__main__":
    unittest.main()
