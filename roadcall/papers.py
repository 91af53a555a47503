"""The looker at papers: it knows nets and words alone (point 29)."""

from roadcall.errors import NoPaper
from roadcall.nets import is_net, is_word, need_net
from roadcall.signings import same_roads
from roadcall.whole import is_whole, is_whole_below
from roadcall.words import image, is_pair, left, sign_image

# How many things a paper has, by its first one.
SIZES = {"call": 4, "beat": 3, "never": 2, "stable": 3}


def is_shaped(thing):
    """Whether any thing is a tuple with one of the four texts first and as many things as go with it."""
    if not isinstance(thing, tuple) or len(thing) == 0 or not isinstance(thing[0], str):
        return False
    return SIZES.get(thing[0]) == len(thing)


def call_fault(net, other, word, many):
    """Where a paper of a call fails first, or None."""
    if not is_net(other) or not same_roads(net, other):
        return 1
    if not is_word(other, word):
        return 2
    if not is_whole(many) or many != left(other, word):
        return 3
    return None


def beat_fault(net, size, numbers):
    """Where a paper of the beat fails first, or None."""
    if not is_whole(size) or size < 1:
        return 1
    if not are_numbers(net, size, numbers) or not go_round(net, size, numbers):
        return 2
    return None


def are_numbers(net, size, thing):
    """Whether any thing is a tuple of a number below size for each place, all of them met."""
    if not isinstance(thing, tuple) or len(thing) != len(net):
        return False
    return all(is_whole_below(number, size) for number in thing) and len(set(thing)) == size


def go_round(net, size, numbers):
    """Whether each road leads from a place with a number to one with the next, or from the last to 0."""
    return all(numbers[goal] == (numbers[place] + 1) % size for place, row in enumerate(net) for goal in row)


def are_pairs(net, thing):
    """Whether any thing is a tuple of one pair or more, sorted, each once."""
    if not isinstance(thing, tuple) or len(thing) == 0:
        return False
    return all(is_pair(net, pair) for pair in thing) and list(thing) == sorted(set(thing))


def goals_of_pairs(net, pairs):
    """The images of pairs by all signs."""
    return [sign_image(net, pair, at) for pair in pairs for at in range(len(net[0]))]


def never_fault(net, pairs):
    """Where a never paper fails first, or None."""
    if not are_pairs(net, pairs) or not all(goal in pairs for goal in goals_of_pairs(net, pairs)):
        return 1
    return None


def stable_fault(net, pairs, words):
    """Where a stable paper fails first, or None."""
    if not are_pairs(net, pairs):
        return 1
    if not all(len(goal) == 1 or goal in pairs for goal in goals_of_pairs(net, pairs)):
        return 1
    if not isinstance(words, tuple) or len(words) != len(pairs):
        return 2
    if not all(calls_together(net, pair, word) for pair, word in zip(pairs, words)):
        return 2
    return None


def calls_together(net, pair, thing):
    """Whether any thing is a word that calls a pair together."""
    return is_word(net, thing) and len(image(net, pair, thing)) == 1


def first_fault(net, paper):
    """The number of the first thing with which a paper is not as told, or None."""
    if not is_shaped(paper):
        return 0
    if paper[0] == "call":
        return call_fault(net, paper[1], paper[2], paper[3])
    if paper[0] == "beat":
        return beat_fault(net, paper[1], paper[2])
    if paper[0] == "never":
        return never_fault(net, paper[1])
    return stable_fault(net, paper[1], paper[2])


def look(net, paper):
    """Let a paper by that shows what it says for a net, and refuse any other thing."""
    need_net(net)
    at = first_fault(net, paper)
    if at is not None:
        raise NoPaper(at)
