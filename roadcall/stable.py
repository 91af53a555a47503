"""Stable pairs, and the net of their classes (points 16 and 17)."""

from roadcall.pairs import all_pairs, coming_pairs, in_order, led_to_some, never_called


def stable_pairs(net):
    """A sorted list of the stable pairs."""
    never = never_called(net)
    # A pair is stable where it is led to none that is never called together.
    shaken = led_to_some(coming_pairs(net), never)
    return [pair for pair in all_pairs(net) if pair not in shaken]


def classes(net):
    """The classes of a net, as a list of lists, by their least places."""
    pairs = stable_pairs(net)
    told = []
    for place in range(len(net)):
        group = [other for other in range(len(net)) if other == place or in_order(place, other) in pairs]
        if place == group[0]:
            told.append(group)
    return told


def net_of_classes(net):
    """The net that has the classes as places."""
    groups = classes(net)
    number = {place: at for at, group in enumerate(groups) for place in group}
    return tuple(tuple(number[goal] for goal in net[group[0]]) for group in groups)
