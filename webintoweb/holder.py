"""A holder: a web that is tied and untied, lists that are held and barred, and levels to come back to."""

from webintoweb.closing import closed
from webintoweb.counting import all_leadings
from webintoweb.errors import NoHold, NoLevel
from webintoweb.finding import led
from webintoweb.leadings import full_lists
from webintoweb.plain import with_list
from webintoweb.webs import has_tie, web_of


class Holder:
    """What is asked of a web and lists into another web as they are now."""

    def __init__(self, W, V):
        self.tied = W
        self.left = full_lists(W, V)
        self.into = V
        self.pushed = []

    def hold(self, a, x):
        """From now on a is led to x alone."""
        self.look_for(a, x)
        self.left = with_list(self.left, a, (x,))

    def bar(self, a, x):
        """From now on a is not led to x."""
        self.look_for(a, x)
        self.left = with_list(self.left, a, tuple([y for y in self.left[a] if y != x]))

    def look_for(self, a, x):
        """Refuses x where it doesn't stand in a's list."""
        if x not in self.left[a]:
            raise NoHold(a, x)

    def tie(self, a, b):
        """From now on there is a tie from a to b."""
        if has_tie(self.tied, a, b):
            raise NoHold(a, b)
        self.tied = web_of(self.tied[0], self.tied[1] + ((a, b),))

    def untie(self, a, b):
        """From now on there is no tie from a to b."""
        if not has_tie(self.tied, a, b):
            raise NoHold(a, b)
        self.tied = web_of(self.tied[0], [other for other in self.tied[1] if other != (a, b)])

    def push(self):
        """One level more."""
        self.pushed.append((self.tied, self.left))

    def pop(self):
        """The web and the lists are again as they were when the level was pushed."""
        if not self.pushed:
            raise NoLevel()
        self.tied, self.left = self.pushed.pop()

    def web(self):
        """The web as it is now."""
        return self.tied

    def lists(self):
        """The lists as they are now."""
        return self.left

    def level(self):
        """How many levels are pushed."""
        return len(self.pushed)

    def answer(self):
        """("leading", f), f one that keeps the lists, or ("none", paper)."""
        return led(self.tied, self.into, self.left)

    def closed_lists(self):
        """The closed lists."""
        return closed(self.tied, self.into, self.left)

    def count(self):
        """How many leadings keep the lists."""
        return len(all_leadings(self.tied, self.into, self.left))
