"""What nets, their places, signs and words are, and their refusals (points 4 and 5)."""

from roadcall.errors import NoNet, NoPlace, NoSign, NoWord
from roadcall.whole import is_whole_below

SIGNS = "abc"
MOST_PLACES = 9
MOST_SIGNS_OF_WORD = 2000


def is_row(thing, many, width):
    """Whether any thing is a row of `width` roads in a net of `many` places."""
    if not isinstance(thing, tuple) or len(thing) != width:
        return False
    return all(is_whole_below(goal, many) for goal in thing)


def is_net(thing):
    """Whether any thing is a net."""
    if not isinstance(thing, tuple) or not 1 <= len(thing) <= MOST_PLACES:
        return False
    many = len(thing)
    for width in (2, 3):
        if all(is_row(row, many, width) for row in thing):
            return True
    return False


def need_net(thing):
    """Refuse what is no net."""
    if not is_net(thing):
        raise NoNet("this is no net")


def signs_of(net):
    """A text of the signs of a net."""
    need_net(net)
    return SIGNS[:len(net[0])]


def all_places(net):
    """The set of all places of a net."""
    return tuple(range(len(net)))


def is_place(net, thing):
    """Whether any thing is a place of a net."""
    return is_whole_below(thing, len(net))


def need_place(net, thing):
    """Refuse what is no place of a net."""
    if not is_place(net, thing):
        raise NoPlace("this is no place of the net")


def is_sign(net, thing):
    """Whether any thing is a sign of a net."""
    # Python finds texts of none and of several signs in a text, too.
    return isinstance(thing, str) and len(thing) == 1 and thing in signs_of(net)


def need_sign(net, thing):
    """Refuse what is no sign of a net."""
    if not is_sign(net, thing):
        raise NoSign("this is no sign of the net")


def is_word(net, thing):
    """Whether any thing is a word of a net."""
    signs = signs_of(net)
    if not isinstance(thing, str) or len(thing) > MOST_SIGNS_OF_WORD:
        return False
    return all(sign in signs for sign in thing)


def need_word(net, thing):
    """Refuse what is no word of a net."""
    if not is_word(net, thing):
        raise NoWord("this is no word of the net")
