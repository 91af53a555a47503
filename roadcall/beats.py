"""The beat of a net that hangs together (point 7)."""

from roadcall.ways import first_words, need_whole
from roadcall.whole import common_divisor


def beat(net):
    """A tuple of the beat and of the number of each place."""
    need_whole(net)
    words = first_words(net, 0)
    far = [len(words[place]) for place in range(len(net))]
    size = 0
    # Round any word that leads a place back, what its roads skip or fall back adds up to its
    # length; so what divides each of these divides all lengths, and the other way about.
    for place, row in enumerate(net):
        for goal in row:
            size = common_divisor(size, far[place] + 1 - far[goal])
    return size, tuple(steps % size for steps in far)
