"""None papers written as lines, and lines read as none papers."""

from webintoweb.errors import NoText
from webintoweb.plain import number_written
from webintoweb.strikes import WAYS

# What stands behind the first word of a line.
FORMS = {
    "strike": ("number", "number", "number", "way"),
    "void": ("number",),
    "cases": ("number", "number"),
}
NUMBERS_END = 1000


def paper_lines(paper):
    """The lines that write a none paper."""
    lines = []
    ahead = [paper]
    while ahead:
        strikes, end = ahead.pop()
        lines.extend([f"strike {a} {x} {b} {way}" for a, x, b, way in strikes])
        if end[0] == "void":
            lines.append(f"void {end[1]}")
        else:
            lines.append(f"cases {end[1]} {len(end[2])}")
            ahead.extend(end[2][::-1])
    return lines


def read_paper(lines):
    """The none paper that is written as these lines, right or not."""
    papers = []
    # From the last line on: so the parts of cases are there, the first one last, where their line comes.
    for told in lines_told(lines)[::-1]:
        if told[0] == "strike":
            strikes, end = papers.pop()
            papers.append(((told[1:],) + strikes, end))
        elif told[0] == "void":
            papers.append(((), told))
        else:
            start = len(papers) - told[2]
            parts = tuple(papers[start:][::-1])
            del papers[start:]
            papers.append(((), ("cases", told[1], parts)))
    return papers[0]


def lines_told(lines):
    """What each line tells, refused where they are not just one paper."""
    found = []
    needed = 1
    for row, line in enumerate(lines):
        if needed == 0:
            raise NoText(row, 0)
        told = words_told(row, line.split(" "))
        needed += papers_more(told)
        found.append(told)
    if needed > 0:
        raise NoText(len(lines), 0)
    return found


def papers_more(told):
    """How many papers more are needed behind a line than ahead of it."""
    if told[0] == "strike":
        return 0
    return -1 if told[0] == "void" else told[2] - 1


def words_told(row, words):
    """The first word of the line at row, and what those behind it tell."""
    if words[0] not in FORMS:
        raise NoText(row, 0)
    found = [words[0]]
    for at, form in enumerate(FORMS[words[0]], start=1):
        thing = word_told(words[at], form) if at < len(words) else None
        if thing is None:
            raise NoText(row, at)
        found.append(thing)
    if len(words) > len(found):
        raise NoText(row, len(found))
    return tuple(found)


def word_told(word, form):
    """The number or the way that a word writes, or None."""
    if form == "number":
        return number_written(word, 0, NUMBERS_END)
    return word if word in WAYS else None
