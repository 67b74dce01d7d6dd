"""A desk: a holder that is told rows and answers texts."""

from webintoweb.errors import NoPaper, NoRow, NoText
from webintoweb.holder import Holder
from webintoweb.leadings import is_leading, keeps
from webintoweb.nonechecker import lets_none
from webintoweb.paperlines import read_paper
from webintoweb.plain import number_written

DEEDS = ("hold", "bar", "tie", "untie", "push", "pop")
BARE = ("push", "pop", "level", "count", "ask", "lists", "closed")


class Desk:
    """A holder that is told rows."""

    def __init__(self, W, V):
        self.holder = Holder(W, V)
        self.ends = V

    def say(self, row):
        """The answer to a row."""
        # All of the row is read ahead of anything that it asks for.
        word, told = read_row(row, self.holder.web()[0], self.ends[0])
        if word in DEEDS:
            self.do(word, told)
            return "ok"
        return self.answered(word, told)

    def do(self, word, numbers):
        """Does a deed."""
        if word == "hold":
            self.holder.hold(numbers[0], numbers[1])
        elif word == "bar":
            self.holder.bar(numbers[0], numbers[1])
        elif word == "tie":
            self.holder.tie(numbers[0], numbers[1])
        elif word == "untie":
            self.holder.untie(numbers[0], numbers[1])
        elif word == "push":
            self.holder.push()
        else:
            self.holder.pop()

    def answered(self, word, told):
        """The answer to a row that is no deed."""
        if word == "level":
            return str(self.holder.level())
        if word == "count":
            return str(self.holder.count())
        if word == "ask":
            return "yes" if self.holder.answer()[0] == "leading" else "none"
        if word == "lists":
            return lists_shown(self.holder.lists())
        if word == "closed":
            return lists_shown(self.holder.closed_lists())
        if word == "led":
            return "yes" if self.leads(told) else "no"
        return self.judged(told)

    def leads(self, f):
        """Whether f is a leading that keeps the lists."""
        return is_leading(self.holder.web(), self.ends, f) and keeps(self.holder.lists(), f)

    def judged(self, paper):
        """Whether the paper is right, or the word for which it is refused."""
        try:
            lets_none(self.holder.web(), self.ends, self.holder.lists(), paper)
        except NoPaper as refusal:
            return f"wrong {refusal.word}"
        return "right"


def lists_shown(lists):
    """The lists with points between numbers and blanks between places."""
    return " ".join([list_shown(places) for places in lists]) if lists else "-"


def list_shown(places):
    """One list with points between its numbers."""
    return ".".join([str(x) for x in places]) if places else "-"


def read_row(row, n, m):
    """The first word of a row, and the numbers or the paper behind it, for webs of n and of m places."""
    words = row.split(" ")
    if words[0] == "judge":
        return ("judge", paper_behind(row))
    numbers = numbers_written(words[1:], bounds_of(words[0], n, m))
    if numbers is None:
        raise NoRow(row)
    return (words[0], numbers)


def bounds_of(word, n, m):
    """For each number behind the word of how many places it is one, or None where no row begins with that word."""
    if word in ("hold", "bar"):
        return (n, m)
    if word in ("tie", "untie"):
        return (n, n)
    if word == "led":
        return (m,) * n
    return () if word in BARE else None


def numbers_written(words, bounds):
    """The numbers within the bounds that are written as these words, or None."""
    if bounds is None or len(words) != len(bounds):
        return None
    numbers = tuple([number_written(word, 0, bound) for word, bound in zip(words, bounds)])
    return None if None in numbers else numbers


def paper_behind(row):
    """The paper that is written behind the row's first word."""
    try:
        return read_paper(row[len("judge "):].split(", "))
    except NoText:
        raise NoRow(row) from None
