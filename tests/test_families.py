"""Point [14]: ALL, ROUND, LINE and WAY."""

import itertools
import unittest

from helper import Promise, web
from webintoweb.families import all_web, line_web, round_web, way_web
from webintoweb.webs import is_web


class Families(Promise):
    def test_all(self):
        self.tells(web(0), all_web, 0)
        self.tells(web(1), all_web, 1)
        self.tells(web(3, (0, 1), (0, 2), (1, 0), (1, 2), (2, 0), (2, 1)), all_web, 3)
        for k in range(25):
            self.tells((k, tuple(itertools.permutations(range(k), 2))), all_web, k)

    def test_round(self):
        self.tells(web(1, (0, 0)), round_web, 1)
        self.tells(web(2, (0, 1), (1, 0)), round_web, 2)
        self.tells(web(3, (0, 1), (1, 2), (2, 0)), round_web, 3)
        for k in range(2, 25):
            self.tells((k, tuple((a, a + 1) for a in range(k - 1)) + ((k - 1, 0),)), round_web, k)

    def test_line(self):
        self.tells(web(0), line_web, 0)
        self.tells(web(1), line_web, 1)
        self.tells(web(3, (0, 1), (0, 2), (1, 2)), line_web, 3)
        for k in range(25):
            self.tells((k, tuple(itertools.combinations(range(k), 2))), line_web, k)

    def test_way(self):
        self.tells(web(1), way_web, "")
        self.tells(web(2, (0, 1)), way_web, ">")
        self.tells(web(2, (1, 0)), way_web, "<")
        self.tells(web(5, (0, 1), (2, 1), (3, 2), (3, 4)), way_web, "><<>")
        for size in range(6):
            for signs in itertools.product("<>", repeat=size):
                ties = [(k, k + 1) if sign == ">" else (k + 1, k) for k, sign in enumerate(signs)]
                self.tells((size + 1, tuple(sorted(ties))), way_web, "".join(signs))

    def test_great_ways(self):
        self.tells((24, tuple((k, k + 1) for k in range(23))), way_web, ">" * 23)
        self.tells((24, tuple((k + 1, k) for k in range(23))), way_web, "<" * 23)

    def test_they_are_webs(self):
        for k in range(1, 25):
            for family in (all_web, round_web, line_web):
                self.tells(True, is_web, family(k))


if __name__ == "__main__":
    unittest.main()
