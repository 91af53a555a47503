"""Steps towards a stable pair (point 21)."""

from roadcall.errors import NoStep
from roadcall.exchanges import exchanged, exchanges
from roadcall.nets import signs_of
from roadcall.rings import rings
from roadcall.stable import stable_pairs
from roadcall.ways import need_whole


def roads_part(net):
    """Whether two roads from some place lead to unlike places."""
    return any(len(set(row)) > 1 for row in net)


def many_on_rings(net):
    """How many places are on rings of the sign a."""
    return sum(len(ring) for ring in rings(net, "a"))


def one_exchange_on(net):
    """The nets to which one exchange leads; the net itself among them where two roads lead alike."""
    signs = signs_of(net)
    return [exchanged(net, place, one, other) for place in range(len(net))
            for one in signs for other in signs if one < other]


def next_nets(nets, seen):
    """What one exchange more leads to, each once; what was seen before is left out, and all is seen then."""
    told = []
    for net in nets:
        for found in one_exchange_on(net):
            if found not in seen:
                seen[found] = True
                told.append(found)
    return told


def first_step(nets, many):
    """The first of the nets with a stable pair, or with more than so many places on rings of the sign a, or None."""
    for net in nets:
        if many_on_rings(net) > many or stable_pairs(net):
            return net
    return None


def steps(net):
    """A list of exchanges, as few as can be, to a stable pair or to more places on rings of the sign a."""
    need_whole(net)
    if not roads_part(net):
        raise NoStep("from each place all roads lead to one")
    many = many_on_rings(net)
    seen = {net: True}
    nets = [net]
    goal = first_step(nets, many)
    # Some signing of each such net is a step, so one is found before there are none to be seen.
    while goal is None:
        nets = next_nets(nets, seen)
        goal = first_step(nets, many)
    return exchanges(net, goal)
