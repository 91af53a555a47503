"""How few places a word can leave, and which (point 27)."""

from roadcall.callers import sets_met
from roadcall.nets import all_places, need_net
from roadcall.words import images_met


def least_rank(net):
    """The least number of places that a word leaves."""
    return min(len(places) for places in sets_met(net))


def least_word(net):
    """The first shortest word that leaves so few places."""
    need_net(net)
    found = images_met(net, all_places(net))
    # Of several alike Python takes the first one, and the sets stand in the order of their words.
    return found[min(found, key=len)]


def least_images(net):
    """A sorted list of the images of all places that have so few places."""
    met = sets_met(net)
    rank = min(len(places) for places in met)
    return sorted([places for places in met if len(places) == rank])
