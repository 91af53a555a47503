"""Which pairs of places can be called together (points 14 and 15)."""

from roadcall.errors import NoPair
from roadcall.nets import need_net
from roadcall.words import first_call, images_met, is_pair


def need_pair(net, thing):
    """Refuse what is no pair of places of a net."""
    if not is_pair(net, thing):
        raise NoPair("this is no pair of places of the net")


def call_of(net, pair):
    """The first shortest word that calls a pair together, or None."""
    need_net(net)
    need_pair(net, pair)
    return first_call(net, pair)


def led_pairs(net, pair):
    """A sorted list of the pairs to which a pair is led, itself among them."""
    need_net(net)
    need_pair(net, pair)
    return sorted([met for met in images_met(net, pair) if len(met) == 2])


def all_pairs(net):
    """All pairs of places of a net, sorted."""
    many = len(net)
    return [(one, other) for one in range(many) for other in range(one + 1, many)]


def in_order(one, other):
    """Two places as a tuple, the lesser one first; twice the same where they are one place."""
    return (one, other) if one < other else (other, one)


def coming_pairs(net):
    """A dict of what signs lead pairs to, each with the list of the pairs that come to it."""
    coming = {}
    for one, other in all_pairs(net):
        for goal, far in zip(net[one], net[other]):
            coming.setdefault(in_order(goal, far), []).append((one, other))
    return coming


def led_to_some(coming, goals):
    """A dict of the goals, and of all that words lead to one of them."""
    found = {goal: True for goal in goals}
    queue = list(goals)
    while queue:
        goal = queue.pop()
        for pair in coming.get(goal, []):
            if pair not in found:
                found[pair] = True
                queue.append(pair)
    return found


def never_called(net):
    """A sorted list of all pairs that are never called together."""
    need_net(net)
    ends = [(place, place) for place in range(len(net))]
    called = led_to_some(coming_pairs(net), ends)
    return [pair for pair in all_pairs(net) if pair not in called]
