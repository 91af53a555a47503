"""The sets that are met, and the words of a length that call all places together (point 25)."""

from roadcall.errors import NoNumber
from roadcall.nets import SIGNS, all_places, need_net
from roadcall.whole import is_whole_below
from roadcall.words import images_met, sign_image


def sets_met(net):
    """A list of the images of all places by all words, in the order of their first words."""
    need_net(net)
    return list(images_met(net, all_places(net)))


def goals_of_sets(net):
    """A dict of the sets that are met, each with the list of its images by the signs."""
    return {places: [sign_image(net, places, at) for at in range(len(net[0]))] for places in sets_met(net)}


def one_sign_on(words, goals):
    """A dict of how many words lead to each set, from that of the words of one sign fewer."""
    longer = {}
    for places, many in words.items():
        for goal in goals[places]:
            longer[goal] = longer.get(goal, 0) + many
    return longer


def counted(net, m):
    """A tuple: how many words of m signs leave one place, two places and so on."""
    goals = goals_of_sets(net)
    words = {all_places(net): 1}
    for turn in range(m):
        words = one_sign_on(words, goals)
    told = [0] * len(net)
    for places, many in words.items():
        told[len(places) - 1] += many
    return tuple(told)


def calls_by_length(goals, m):
    """A list of dicts: how many words of no sign, of one and so on, up to m, call each set together."""
    told = [{places: 1 if len(places) == 1 else 0 for places in goals}]
    for turn in range(m):
        shorter = told[-1]
        told.append({places: sum([shorter[goal] for goal in goals[places]]) for places in goals})
    return told


def sign_of_number(goals, calls, number):
    """The number of the first sign in the word of a number, and the word's number among those that begin so."""
    at = 0
    # Words that begin with an earlier sign are sorted ahead of all others.
    while number >= calls[goals[at]]:
        number -= calls[goals[at]]
        at += 1
    return at, number


def caller(net, m, number):
    """The word of a number among the sorted words of m signs that leave one place."""
    goals = goals_of_sets(net)
    calls = calls_by_length(goals, m)
    places = all_places(net)
    if not is_whole_below(number, calls[m][places]):
        raise NoNumber("this is no number of a word that leaves one place")
    word = ""
    for rest in reversed(range(m)):
        at, number = sign_of_number(goals[places], calls[rest], number)
        word += SIGNS[at]
        places = goals[places][at]
    return word
