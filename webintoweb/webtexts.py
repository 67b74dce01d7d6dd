"""Webs written as lines, and lines read as webs."""

from webintoweb.errors import NoText
from webintoweb.plain import number_written
from webintoweb.webs import MOST_PLACES, outs


def shown(web):
    """The lines that write the web."""
    lines = [f"web {web[0]}"]
    for a in range(web[0]):
        ends = outs(web, a)
        if ends:
            lines.append(" ".join([str(a), ">"] + [str(b) for b in ends]))
    return lines


def read(lines):
    """The web that is written as these lines."""
    if not lines:
        raise NoText(0, 0)
    n = read_count(lines[0].split(" "))
    ties = []
    last = -1
    for row in range(1, len(lines)):
        found = read_ties(row, lines[row].split(" "), last, n)
        ties.extend(found)
        last = found[0][0]
    return (n, tuple(ties))


def read_count(words):
    """The count of places that the first line's words tell."""
    if words[0] != "web":
        raise NoText(0, 0)
    if len(words) == 1:
        raise NoText(0, 1)
    n = number_written(words[1], 0, MOST_PLACES + 1)
    if n is None:
        raise NoText(0, 1)
    if len(words) > 2:
        raise NoText(0, 2)
    return n


def read_ties(row, words, last, n):
    """The ties that a row's words tell, all from one place above last."""
    a = read_place(row, words, 0, last, n)
    if len(words) == 1 or words[1] != ">":
        raise NoText(row, 1)
    if len(words) == 2:
        raise NoText(row, 2)
    ties = []
    end = -1
    for word in range(2, len(words)):
        end = read_place(row, words, word, end, n)
        ties.append((a, end))
    return ties


def read_place(row, words, word, last, n):
    """The one of n places, above last, that a word of the row writes."""
    place = number_written(words[word], last + 1, n)
    if place is None:
        raise NoText(row, word)
    return place
