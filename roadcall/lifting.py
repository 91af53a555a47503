"""Words for the net of classes, lifted to words for the net (point 18)."""

from roadcall.nets import all_places, need_net, need_word
from roadcall.pairs import call_of
from roadcall.stable import stable_pairs
from roadcall.words import image


def lifted(net, word):
    """A word that begins with the word handed in, and leaves at most as many places as that leaves classes."""
    need_net(net)
    need_word(net, word)
    pairs = stable_pairs(net)
    places = image(net, all_places(net), word)
    together = pairs_among(pairs, places)
    # Signs lead a class into one class, so what is called together stays so while others are.
    while together:
        call = call_of(net, together[0])
        word += call
        places = image(net, places, call)
        together = pairs_among(pairs, places)
    return word


def pairs_among(pairs, places):
    """Those of the pairs of which both places are among the places."""
    return [pair for pair in pairs if pair[0] in places and pair[1] in places]
