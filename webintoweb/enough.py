"""Leadings where a middle and lists that fit it make closed pairs enough."""

from webintoweb.pairclosing import closed_table
from webintoweb.pairtelling import pairs_told


def middle_told(one, other, lists, middle):
    """("leading", f), f one that keeps the lists, or ("none", paper), a pair paper."""
    word, told = pairs_told(one, other, lists)
    if word == "none":
        return (word, told)
    return ("leading", led_on(told, {}))


def led_through(one, other, lists, middle, a, b, x, y):
    """A leading that keeps the lists and leads a to x and b to y, a pair that stands there in the closed table."""
    return led_on(closed_table(one, other, lists), {a: x, b: y})


def led_on(table, start):
    """The leading that begins as start tells, each two images of which stand in the closed table."""
    images = dict(start)
    for a in range(len(table)):
        if a not in images:
            images[a] = first_fitting(table, images, a)
    return tuple([images[a] for a in range(len(table))])


def first_fitting(table, images, a):
    """The first place that a may be led to beside all the images."""
    # The middle sees to it that there is one, whatever was chosen ahead of it.
    return [x for x, y in table[a][a] if all((images[b], x) in table[b][a] for b in images)][0]
