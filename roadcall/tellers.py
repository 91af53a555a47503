"""Papers that are let by (point 30)."""

from roadcall.beats import beat
from roadcall.calling import called
from roadcall.pairs import call_of, led_pairs
from roadcall.words import left


def paper_of_call(net):
    """A paper of a call to as many places as the beat says."""
    other, word = called(net)
    return "call", other, word, left(other, word)


def paper_of_beat(net):
    """The paper of the beat."""
    size, numbers = beat(net)
    return "beat", size, numbers


def paper_of_pair(net, pair):
    """A never paper with a pair that is never called together, a stable one with a stable pair, else None."""
    pairs = tuple(led_pairs(net, pair))
    if call_of(net, pair) is None:
        return "never", pairs
    words = tuple(call_of(net, met) for met in pairs)
    if None in words:
        return None
    return "stable", pairs, words
