"""Looks at trees that bar every leading that keeps the lists. It seeks nothing."""

from webintoweb.errors import NoBar
from webintoweb.trees import images, is_tree


def lets_bar(one, other, lists, thing):
    """True where any plain thing is a tree of one without images in other by the lists."""
    if not is_tree(one, thing):
        raise NoBar("shape")
    if images(one, other, lists, thing) != ():
        raise NoBar("led")
    return True
