"""Exchanges of the signs of two roads from a place (point 10)."""

from roadcall.errors import NoKin, NoSign
from roadcall.nets import SIGNS, need_net, need_place, need_sign
from roadcall.signings import same_roads


def swapped(row, one, other):
    """A row with the goals at two of its spots changed about."""
    goals = list(row)
    goals[one], goals[other] = goals[other], goals[one]
    return tuple(goals)


def exchanged(net, place, one, other):
    """The net behind an exchange."""
    need_net(net)
    need_place(net, place)
    need_sign(net, one)
    need_sign(net, other)
    if not one < other:
        raise NoSign("the first sign does not come ahead of the second")
    row = swapped(net[place], SIGNS.index(one), SIGNS.index(other))
    return net[:place] + (row,) + net[place + 1:]


def row_exchanges(place, row, goal):
    """The exchanges at a place, as few as can be, that lead from its row to another order of it."""
    told = []
    stands = row
    for at in range(len(goal)):
        if stands[at] != goal[at]:
            # A goal that stands right already must not be taken away, though it is alike.
            wrong = [spot for spot in range(at + 1, len(goal)) if stands[spot] != goal[spot]]
            found = [spot for spot in wrong if stands[spot] == goal[at]]
            stands = swapped(stands, at, found[0])
            told.append((place, SIGNS[at], SIGNS[found[0]]))
    return told


def exchanges(one, other):
    """A list of exchanges, as few as can be, that lead from a net to a signing of it."""
    if not same_roads(one, other):
        raise NoKin("the two nets do not have the same roads")
    told = []
    for place, row in enumerate(one):
        told.extend(row_exchanges(place, row, other[place]))
    return told
