"""All leadings that keep the lists, and how many there are."""


def all_leadings(W, V, lists):
    """The list of all leadings of W into V that keep the lists, rising."""
    if () in lists:
        # Without this, what the other lists bring would be gone through in vain.
        return []
    ties = {tie: True for tie in V[1]}
    found = [()]
    for a, places in enumerate(lists):
        settled = [tie for tie in W[1] if max(tie) == a]
        found = [f + (x,) for f in found for x in places if leads_on(settled, ties, f + (x,))]
    return found


def leads_on(settled, ties, f):
    """Whether f leads each of the settled ties, both ends of which it has, to one of ties."""
    return all((f[a], f[b]) in ties for a, b in settled)


def count(W, V, lists):
    """How many leadings of W into V keep the lists."""
    return len(all_leadings(W, V, lists))
