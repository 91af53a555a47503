"""The rings of a sign, and what hangs on them (points 19 and 20)."""

from roadcall.nets import SIGNS, need_net, need_sign
from roadcall.pairs import in_order


def goals_of(net, sign):
    """The places to which a sign leads from each place."""
    need_net(net)
    need_sign(net, sign)
    at = SIGNS.index(sign)
    return [row[at] for row in net]


def ring_places(goals):
    """The places on rings, rising."""
    places = list(range(len(goals)))
    # No tail is longer than there are places, and rings lose none.
    for turn in range(len(goals)):
        places = sorted({goals[place] for place in places})
    return places


def ring_from(goals, place):
    """The ring of a place on it, from the place on."""
    ring = [place]
    while goals[ring[-1]] != place:
        ring.append(goals[ring[-1]])
    return ring


def rings(net, sign):
    """The rings of a sign, as a list of lists, by their least places."""
    goals = goals_of(net, sign)
    found = [ring_from(goals, place) for place in ring_places(goals)]
    return [ring for ring in found if ring[0] == min(ring)]


def tails(goals):
    """For each place the list of places on its way to a ring, from itself to its root."""
    ends = ring_places(goals)
    told = []
    for place in range(len(goals)):
        tail = [place]
        while tail[-1] not in ends:
            tail.append(goals[tail[-1]])
        told.append(tail)
    return told


def heights(net, sign):
    """A tuple of the height of each place."""
    return tuple(len(tail) - 1 for tail in tails(goals_of(net, sign)))


def roots(net, sign):
    """A tuple of the root of each place."""
    return tuple(tail[-1] for tail in tails(goals_of(net, sign)))


def top_pairs(net, sign):
    """A sorted list of the top pairs; empty where the highest places have several roots, or no height."""
    goals = goals_of(net, sign)
    found = tails(goals)
    longest = max(len(tail) for tail in found)
    highest = [tail for tail in found if len(tail) == longest]
    root = highest[0][-1]
    if longest == 1 or any(tail[-1] != root for tail in highest):
        return []
    ahead = ring_from(goals, root)[-1]
    return sorted({in_order(ahead, tail[-2]) for tail in highest})
