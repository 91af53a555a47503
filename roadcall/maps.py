"""All maps that the words of a net have (point 12)."""

from roadcall.errors import TooMany
from roadcall.nets import all_places, need_net
from roadcall.ways import first_met

MOST_MAPS = 500


def all_maps(net):
    """A list of tuples (word, map): each map with its first word, in the order of these words."""
    need_net(net)
    found = first_met(all_places(net), len(net[0]),
                      lambda goals, at: tuple(net[goal][at] for goal in goals), MOST_MAPS)
    if len(found) > MOST_MAPS:
        raise TooMany("the words of the net have too many maps")
    return [(word, goals) for goals, word in found.items()]
