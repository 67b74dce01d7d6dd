"""Tuples of places and lists written as a text, and texts read as these."""

from webintoweb.errors import NoText
from webintoweb.plain import number_written


def leading_text(f):
    """The text that writes a tuple of places."""
    return text_of([str(x) for x in f])


def lists_text(lists):
    """The text that writes lists."""
    return text_of([list_word(places) for places in lists])


def text_of(words):
    """The words by single blanks, or the word that stands for no places at all."""
    return " ".join(words) if words else "none"


def list_word(places):
    """The word that writes one list."""
    return ",".join([str(x) for x in places]) if places else "-"


def read_leading(W, V, text):
    """The tuple with a place of V for each place of W that is written as text."""
    return read_words(W, text, lambda word: number_written(word, 0, V[0]))


def read_lists(W, V, text):
    """The lists of W into V that are written as text."""
    return read_words(W, text, lambda word: list_written(word, V[0]))


def read_words(W, text, reader):
    """For each place of W what reader makes of its word, which is None where the word can't stand."""
    words = text.split(" ")
    if W[0] == 0:
        return read_none(words)
    found = []
    for at, word in enumerate(words[:W[0]]):
        thing = reader(word)
        if thing is None:
            raise NoText(0, at)
        found.append(thing)
    if len(words) != W[0]:
        # The first word too many, or the first that lacks: both stand behind what was found.
        raise NoText(0, len(found))
    return tuple(found)


def read_none(words):
    """What is written for no places at all."""
    if words[0] != "none":
        raise NoText(0, 0)
    if len(words) > 1:
        raise NoText(0, 1)
    return ()


def list_written(word, n):
    """The rising tuple of some of n places that is written as word, or None."""
    if word == "-":
        return ()
    found = []
    last = -1
    for figures in word.split(","):
        last = number_written(figures, last + 1, n)
        if last is None:
            return None
        found.append(last)
    return tuple(found)
