"""A signing of a net, and a word that leaves as few places as can be (point 22)."""

from roadcall.exchanges import exchanged
from roadcall.lifting import lifted
from roadcall.stable import classes, net_of_classes
from roadcall.steps import roads_part, steps
from roadcall.ways import need_whole


def exchanged_in_classes(net, told):
    """The net behind exchanges in its net of classes, each done at all places of its class."""
    groups = classes(net)
    for at, one, other in told:
        for place in groups[at]:
            net = exchanged(net, place, one, other)
    return net


def called(net):
    """A tuple (signing, word): in the signing the word leaves as many places as the beat says."""
    need_whole(net)
    # Two places of a class go by the same roads as before, whatever is exchanged in whole classes:
    # so they stay in one class, and the classes grow, or the rings of their net, till it is a ring.
    small = net_of_classes(net)
    while roads_part(small):
        net = exchanged_in_classes(net, steps(small))
        small = net_of_classes(net)
    return net, lifted(net, "")
