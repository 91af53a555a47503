"""What sets and pairs are, and what words do to sets and to all places (points 11, 13 and 14)."""

from roadcall.errors import NoSet
from roadcall.nets import all_places, is_place, need_net, need_word
from roadcall.ways import end_of, first_met


def is_set(net, thing):
    """Whether any thing is a set of places of a net."""
    if not isinstance(thing, tuple) or len(thing) == 0:
        return False
    return all(is_place(net, place) for place in thing) and list(thing) == sorted(set(thing))


def need_set(net, thing):
    """Refuse what is no set of places of a net."""
    if not is_set(net, thing):
        raise NoSet("this is no set of places of the net")


def is_pair(net, thing):
    """Whether any thing is a pair of places of a net."""
    return is_set(net, thing) and len(thing) == 2


def image(net, places, word):
    """The set of the places to which a word leads from a set."""
    need_net(net)
    need_set(net, places)
    need_word(net, word)
    return tuple(sorted({end_of(net, place, word) for place in places}))


def sign_image(net, places, at):
    """The image of a set by the sign with the number `at`."""
    return tuple(sorted({net[place][at] for place in places}))


def images_met(net, places):
    """A dict of all images of a set, each with the first word that leads there, in the order of these words."""
    return first_met(places, len(net[0]), lambda met, at: sign_image(net, met, at))


def first_call(net, places):
    """The first shortest word that calls a set together, or None; for callers that have looked at both."""
    for met, word in images_met(net, places).items():
        if len(met) == 1:
            return word
    return None


def map_of(net, word):
    """The tuple of the places to which a word leads from each place."""
    need_net(net)
    need_word(net, word)
    return tuple(end_of(net, place, word) for place in range(len(net)))


def left(net, word):
    """How many places a word leaves."""
    return len(set(map_of(net, word)))


def comes_round(net, word):
    """A tuple (ahead, round): when the word, said again and again, comes round."""
    once = map_of(net, word)
    met = {}
    said = all_places(net)
    while said not in met:
        met[said] = len(met)
        said = tuple(once[place] for place in said)
    return met[said], len(met) - met[said]
