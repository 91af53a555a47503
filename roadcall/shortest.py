"""Short words that call sets together (point 24)."""

from roadcall.lifting import lifted
from roadcall.nets import need_net
from roadcall.pairs import never_called
from roadcall.words import first_call, need_set


def shortest(net, places):
    """The first shortest word that calls a set together, or None."""
    need_net(net)
    need_set(net, places)
    return first_call(net, places)


def by_pairs(net):
    """A word that calls all places together, pair by pair, or None."""
    if never_called(net):
        return None
    # Then all pairs are stable, and there is one class. Each call has at most as many signs as
    # there are pairs, and there is one place at least fewer behind it.
    return lifted(net, "")
