"""Middles of webs: tables that tell a place for each three."""

from webintoweb.plain import is_place


def is_middle(web, thing):
    """Whether any plain thing is a middle of the web."""
    return is_table_by_kind(thing, web[0]) and goes_by_two(thing) and keeps_ties(web, thing)


def is_table_by_kind(thing, n):
    """Whether thing tells one of n places for each three of them."""
    if not has_many(thing, n) or not all(has_many(rows, n) for rows in thing):
        return False
    if not all(has_many(row, n) for rows in thing for row in rows):
        return False
    return all(is_place(x, n) for rows in thing for row in rows for x in row)


def has_many(thing, n):
    """Whether thing is a tuple of n things."""
    return isinstance(thing, tuple) and len(thing) == n


def goes_by_two(middle):
    """Whether, where two of three are one place, that one is told."""
    n = len(middle)
    return all(middle[x][x][y] == middle[x][y][x] == middle[y][x][x] == x for x in range(n) for y in range(n))


def keeps_ties(web, middle):
    """Whether of any three ties the middles of their begins and of their ends are a tie."""
    ties = {tie: True for tie in web[1]}
    return all(
        (middle[x][u][s], middle[y][v][t]) in ties
        for x, y in web[1] for u, v in web[1] for s, t in web[1]
    )


def lists_fit(middle, lists):
    """Whether of any three of a list the middle is in it."""
    return all(list_fits(middle, places) for places in lists)


def list_fits(middle, places):
    """Whether of any three of places the middle is one of them."""
    return all(middle[x][y][z] in places for x in places for y in places for z in places)


def by_numbers(n):
    """The table of n places that tells the middle one by size."""
    return table_of(n, lambda x, y, z: sorted([x, y, z])[1])


def by_likeness(n):
    """The table of n places that tells the last two where they are one place, else the first."""
    return table_of(n, lambda x, y, z: y if y == z else x)


def table_of(n, rule):
    """The table that has what the rule tells for each three of n places."""
    places = list(range(n))
    return tuple([tuple([tuple([rule(x, y, z) for z in places]) for y in places]) for x in places])
