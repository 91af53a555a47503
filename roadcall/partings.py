"""How words that leave as few places as can be part the places (point 28)."""

from roadcall.errors import TooMany
from roadcall.least import least_word
from roadcall.ways import first_met
from roadcall.words import map_of

MOST_PARTINGS = 200


def parted_by(goals):
    """The places, parted by their goals: a tuple of sets, by their least places."""
    groups = {}
    for place, goal in enumerate(goals):
        groups.setdefault(goal, []).append(place)
    return tuple(tuple(group) for group in groups.values())


def parting_ahead(net, parting, at):
    """The parting of a word with the sign of the number `at` put ahead of it, by that of the word."""
    number = {place: part for part, places in enumerate(parting) for place in places}
    return parted_by([number[row[at]] for row in net])


def least_partings(net):
    """A sorted list of the partings of all words that leave as few places as can be."""
    start = parted_by(map_of(net, least_word(net)))
    # A least word with another one behind it still parts as it does alone; so one least word
    # with all others ahead of it has every least parting.
    found = first_met(start, len(net[0]), lambda parting, at: parting_ahead(net, parting, at), MOST_PARTINGS)
    if len(found) > MOST_PARTINGS:
        raise TooMany("there are too many least partings")
    return sorted(found)
