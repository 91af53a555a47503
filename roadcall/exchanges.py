"""Exchanges of the signs of two roads from a place (point 10)."""

from roadcall.errors import NoKin, NoSign
from roadcall.nets import SIGNS, need_net, need_place, need_sign
from roadcall.signings import same_roads


def swapped(row, one, other):
    """A row with the goals at two of its spots changed about."""
    goals = list(row)
    goals[one], goals[other] = goals[other], goals[one]
    return tuple(goals)


def exchanged(net, place, one, other):
    """The net behind an exchange."""
    need_net(net)
    need_place(net, place)
    need_sign(net, one)
    need_sign(net, other)
    if not one < other:
        raise NoSign("the first sign does not come ahead of the second")
    row = swapped(net[place], SIGNS.index(one), SIGNS.index(other))
    return net[:place] + (row,) + net[place + 1:]


def row_exchanges(place, row, goal):
    """The exchanges at a place, as few as can be, that lead from its row to another order of it."""
    told = []
    for at in range(len(row)):
        if row[at] != goal[at]:
            # A goal that stands right already must not be taken away, though it is alike.
            spots = [spot for spot in range(at + 1, len(row)) if row[spot] == goal[at] and row[spot] != goal[spot]]
            row = swapped(row, at, spots[0])
            told.append((place, SIGNS[at], SIGNS[spots[0]]))
    return told


def exchanges(one, other):
    """A list of exchanges, as few as can be, that lead from a net to a signing of it."""
    if not same_roads(one, other):
        raise NoKin("the two nets do not have the same roads")
    told = []
    for place, row in enumerate(one):
        told.extend(row_exchanges(place, row, other[place]))
    return told
