"""What several modules ask of plain things, written words and lists."""


def is_whole(thing):
    """Whether thing is a whole number."""
    # To Python truths are ints, too.
    return isinstance(thing, int) and not isinstance(thing, bool)


def is_place(thing, n):
    """Whether thing is one of n places."""
    return is_whole(thing) and 0 <= thing < n


def are_rising(thing, n):
    """Whether thing is a rising tuple of unlike ones of n places."""
    if not isinstance(thing, tuple):
        return False
    last = -1
    for place in thing:
        if not is_place(place, n) or place <= last:
            return False
        last = place
    return True


def number_written(word, low, end):
    """The number from low to below end that is written as word, or None."""
    # Written numbers are compared as texts: so no 0 stands ahead, and no word is too long to be looked at.
    for number in range(low, end):
        if str(number) == word:
            return number
    return None


def with_list(lists, a, places):
    """The lists with places in the place of a's list."""
    return lists[:a] + (places,) + lists[a + 1:]
