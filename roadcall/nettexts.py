"""Nets and words as texts, and what other texts are made of (point 31)."""

from roadcall.errors import NoText
from roadcall.nets import MOST_PLACES, MOST_SIGNS_OF_WORD, SIGNS, need_net, need_word

FIGURES = "0123456789"
# No net has a place 9.
PLACE_FIGURES = "012345678"
MOST_FIGURES = 60
WITHOUT_SIGNS = "-"


def figures(places):
    """Places, or numbers below ten, as figures."""
    return "".join([str(place) for place in places])


def written_sets(sets):
    """Several sets, or pairs, with commas."""
    return ",".join([figures(places) for places in sets])


def written_word(word):
    """A word as it is written."""
    return word if word != "" else WITHOUT_SIGNS


def show_net(net):
    """A net as a text."""
    need_net(net)
    return " ".join([figures(row) for row in net])


def show_word(net, word):
    """A word of a net as a text."""
    need_net(net)
    need_word(net, word)
    return written_word(word)


def is_made_of(text, signs):
    """Whether a text has one sign or more, all of them among these."""
    return text != "" and all(sign in signs for sign in text)


def is_number(text):
    """Whether a text is a whole number as written, of at most sixty figures."""
    if not is_made_of(text, FIGURES) or len(text) > MOST_FIGURES:
        return False
    return text == "0" or text[0] != "0"


def need_text(thing):
    """Refuse what is no text."""
    if not isinstance(thing, str):
        raise NoText("this is no text")


def read_figures(text):
    """The tuple of numbers that are written as figures of places, one or more."""
    if not is_made_of(text, PLACE_FIGURES):
        raise NoText("these are no figures of places")
    return tuple(int(figure) for figure in text)


def read_rows(texts):
    """The rows that are written as those of a net; they may be no net all the same."""
    rows = tuple(read_figures(text) for text in texts)
    width = len(rows[0])
    if len(rows) > MOST_PLACES or width not in (2, 3) or any(len(row) != width for row in rows):
        raise NoText("these are no rows of a net")
    return rows


def read_net(text):
    """The net that is so written."""
    need_text(text)
    net = read_rows(text.split(" "))
    need_net(net)
    return net


def read_word(text):
    """The word that is so written, of any net."""
    need_text(text)
    if text == WITHOUT_SIGNS:
        return ""
    if not is_made_of(text, SIGNS) or len(text) > MOST_SIGNS_OF_WORD:
        raise NoText("this is no word as written")
    return text
