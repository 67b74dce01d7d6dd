"""Point [24]: tuples of places and lists written and read."""

import itertools
import random
import unittest

from helper import Promise, all_tuples, some_lists, web
from webintoweb.errors import NoText
from webintoweb.families import all_web
from webintoweb.leadtexts import leading_text, lists_text, read_leading, read_lists

VOID = web(0)


class Written(Promise):
    def test_leadings(self):
        self.tells("none", leading_text, ())
        self.tells("0", leading_text, (0,))
        self.tells("3 0 11 0", leading_text, (3, 0, 11, 0))
        self.tells(" ".join(str(k) for k in range(64)), leading_text, tuple(range(64)))

    def test_lists(self):
        self.tells("none", lists_text, ())
        self.tells("-", lists_text, ((),))
        self.tells("0", lists_text, ((0,),))
        self.tells("0,2,11 - 1 - -", lists_text, ((0, 2, 11), (), (1,), (), ()))


class ReadLeading(Promise):
    def refused(self, word, W, V, text):
        self.refuses(NoText, (0, word), read_leading, W, V, text)

    def test_what_is_written_is_read_as_it_was(self):
        for n, m in itertools.product(range(4), repeat=2):
            for f in all_tuples(web(n), web(m)):
                self.tells(f, read_leading, web(n), web(m), leading_text(f))
        self.tells(tuple(range(23, -1, -1)), read_leading, web(24), web(24), leading_text(tuple(range(23, -1, -1))))
        self.tells((63,), read_leading, web(1), web(64), "63")

    def test_it_need_not_be_a_leading(self):
        self.tells((0, 0), read_leading, web(2, (0, 1)), all_web(2), "0 0")

    def test_words_that_can_not_stand(self):
        for word, text in [
            (0, ""), (0, " "), (0, "  "), (0, " 0 1"), (0, "none"), (0, "none 1"), (0, "none none"), (0, "3 1"),
            (0, "00 1"), (0, "01 1"), (0, "-1 0"), (0, "- 0"), (0, "+1 0"), (0, "x 0"), (0, "0,1"), (0, "0, 1"),
            (0, "1.0 1"), (0, "9" * 1990), (0, "0" * 1990), (0, "10 0"), (0, "1_0 0"), (0, "0\n 1"),
            (1, "0"), (1, "0 "), (1, "0  1"), (1, "0  "), (1, "0 none"), (1, "0 3"), (1, "0 01"), (1, "0 -"),
            (1, "0 1,2"), (1, "0 x 1"), (1, "0 3 1"), (1, "2 00"),
            (2, "0 1 "), (2, "0 1 2"), (2, "0 1 2 0"), (2, "0 1  2"), (2, "0 1 none"), (2, "0 1 x"),
        ]:
            self.refused(word, web(2), web(3), text)

    def test_of_a_web_without_places_none_alone_stands(self):
        for V in (VOID, web(3)):
            self.tells((), read_leading, VOID, V, "none")
            for word, text in [
                (0, ""), (0, " "), (0, "0"), (0, "None"), (0, "non"), (0, "-"), (0, " none"), (0, "0 none"), (0, "nonenone"),
                (1, "none "), (1, "none none"), (1, "none 0"), (1, "none  none"),
            ]:
                self.refused(word, VOID, V, text)

    def test_into_a_web_without_places_nothing_stands(self):
        for text in ("", "none", "0", "-"):
            self.refused(0, web(1), VOID, text)

    def test_great_texts(self):
        self.tells((0,) * 24, read_leading, web(24), web(1), "0 " * 23 + "0")
        self.refused(24, web(24), web(1), "0 " * 999 + "0")
        self.refused(23, web(24), web(1), "0 " * 22 + "0")


class ReadLists(Promise):
    def refused(self, word, W, V, text):
        self.refuses(NoText, (0, word), read_lists, W, V, text)

    def test_what_is_written_is_read_as_it_was(self):
        rows = [row for size in range(4) for row in itertools.combinations(range(3), size)]
        for n in range(3):
            for lists in itertools.product(rows, repeat=n):
                self.tells(lists, read_lists, web(n), web(3), lists_text(lists))
        chance = random.Random(60)
        for n in range(25):
            lists = some_lists(chance, web(n), web(24))
            self.tells(lists, read_lists, web(n), web(24), lists_text(lists))

    def test_by_hand(self):
        self.tells(((0, 2), ()), read_lists, web(2), web(3), "0,2 -")
        self.tells(((), ()), read_lists, web(2), VOID, "- -")

    def test_words_that_can_not_stand(self):
        for word, text in [
            (0, ""), (0, " "), (0, " 0 1"), (0, "none"), (0, "none -"), (0, "3 -"), (0, "00 -"), (0, "01 -"),
            (0, ", -"), (0, "0, -"), (0, ",0 -"), (0, "0,,1 -"), (0, "1,0 -"), (0, "0,0 -"), (0, "0,2,1 -"),
            (0, "0,1,1 -"), (0, "0,3 -"), (0, "0,01 -"), (0, "-- -"), (0, "0,- -"), (0, "-,0 -"), (0, "-0 -"),
            (0, "-1 -"), (0, "0-1 -"), (0, "0.1 -"), (0, "x -"), (0, "0,x -"), (0, "0,none -"), (0, "9" * 1990),
            (0, "0,1,2,3 -"), (0, "1,2,0 -"), (0, "0;1 -"),
            (1, "-"), (1, "0,1"), (1, "- "), (1, "0  1"), (1, "- none"), (1, "- 3"), (1, "- 2,1"), (1, "- 0,"),
            (1, "- 1,1"), (1, "- x -"), (1, "0 ,"), (1, "0 ,1"),
            (2, "- - "), (2, "- - -"), (2, "0 1 2"), (2, "0,1 2 none"), (2, "0 1  2"), (2, "- - x"),
        ]:
            self.refused(word, web(2), web(3), text)

    def test_of_a_web_without_places_none_alone_stands(self):
        for V in (VOID, web(3)):
            self.tells((), read_lists, VOID, V, "none")
            for word, text in [
                (0, ""), (0, " "), (0, "-"), (0, "0"), (0, "nones"), (0, " none"), (0, "- none"),
                (1, "none "), (1, "none none"), (1, "none -"), (1, "none 0"),
            ]:
                self.refused(word, VOID, V, text)

    def test_into_a_web_without_places_the_void_list_alone_stands(self):
        self.tells(((),), read_lists, web(1), VOID, "-")
        for text in ("", "none", "0", "0,1"):
            self.refused(0, web(1), VOID, text)


if __name__ == "__main__":
    unittest.main()
