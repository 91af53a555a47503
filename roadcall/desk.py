"""The desk: it keeps a net, and answers rows of words with texts (points 32 and 33)."""

from roadcall.beats import beat
from roadcall.callers import counted
from roadcall.calling import called
from roadcall.errors import NoDeed, NoNumber, NoPaper, NoRow
from roadcall.exchanges import exchanged
from roadcall.least import least_images
from roadcall.nets import SIGNS, need_place, need_sign
from roadcall.nettexts import (FIGURES, figures, is_made_of, is_number, read_net, read_word, show_net, written_sets,
                               written_word)
from roadcall.pairs import call_of
from roadcall.papers import look
from roadcall.papertexts import read_paper
from roadcall.partings import least_partings
from roadcall.rings import rings
from roadcall.shortest import shortest
from roadcall.signings import number_of, signing, signings
from roadcall.stable import classes, stable_pairs
from roadcall.waiting import mean_wait
from roadcall.ways import led, parts
from roadcall.weights import weights
from roadcall.words import image

MOST_SIGNS_COUNTED = 60

# What stands behind the first word of a row, as the document calls it.
FORMS = {
    "exchange": ("P", "S", "T"), "road": ("P", "S", "Q"), "sign": ("N",), "call": (), "undo": (),
    "net": (), "number": (), "signings": (), "parts": (), "beat": (), "weights": (),
    "led": ("P", "WORD"), "image": ("SET", "WORD"), "pair": ("P", "Q"), "stable": (), "classes": (),
    "rings": ("S",), "shortest": ("SET",), "callers": ("M",), "wait": (), "least": (), "partings": (),
    "look": ("PAPER",),
}


def split_row(row):
    """The words of a row; all that stands behind look and a blank is one."""
    first, blank, rest = row.partition(" ")
    if first == "look" and blank == " ":
        return [first, rest]
    return row.split(" ")


def fits(kind, text):
    """Whether a text is what the row needs at its place; words and papers are looked at when they are read."""
    if kind in ("P", "Q"):
        return len(text) == 1 and text in FIGURES
    if kind in ("S", "T"):
        return len(text) == 1 and text in SIGNS
    if kind == "SET":
        return is_made_of(text, FIGURES) and list(text) == sorted(set(text))
    if kind in ("N", "M"):
        return is_number(text)
    return True


def read_thing(kind, text):
    """What a text that fits stands for."""
    if kind in ("P", "Q", "N", "M"):
        return int(text)
    if kind == "SET":
        return tuple(int(figure) for figure in text)
    if kind == "WORD":
        return read_word(text)
    if kind == "PAPER":
        return read_paper(text)
    return text


def read_row(row):
    """A tuple of the first word of a row, and of the list of the things behind it."""
    if not isinstance(row, str):
        raise NoRow("this is no text")
    name, *texts = split_row(row)
    if name not in FORMS or len(texts) != len(FORMS[name]):
        raise NoRow("the desk knows no such row")
    if not all(fits(kind, text) for kind, text in zip(FORMS[name], texts)):
        raise NoRow("a word of the row is not what it has to be")
    if name == "exchange" and not texts[1] < texts[2]:
        raise NoRow("the first sign does not come ahead of the second")
    return name, [read_thing(kind, text) for kind, text in zip(FORMS[name], texts)]


def do_exchange(net, place, one, other):
    return exchanged(net, place, one, other), "ok"


def do_road(net, place, sign, goal):
    need_place(net, place)
    need_sign(net, sign)
    need_place(net, goal)
    row = list(net[place])
    row[SIGNS.index(sign)] = goal
    return net[:place] + (tuple(row),) + net[place + 1:], "ok"


def do_sign(net, number):
    return signing(net, number), "ok"


def do_call(net):
    other, word = called(net)
    return other, written_word(word)


# Each tells the net behind the deed, and the answer.
DEEDS = {"exchange": do_exchange, "road": do_road, "sign": do_sign, "call": do_call}


def listed(texts):
    """A list as it is answered."""
    return " ".join(texts) if texts else "none"


def listed_sets(sets):
    return listed([figures(places) for places in sets])


def listed_numbers(numbers):
    return listed([str(number) for number in numbers])


def word_or_never(word):
    return "never" if word is None else written_word(word)


def tell_net(net):
    return show_net(net)


def tell_number(net):
    return str(number_of(net))


def tell_signings(net):
    return str(signings(net))


def tell_parts(net):
    return listed_sets(parts(net))


def tell_beat(net):
    size, numbers = beat(net)
    return f"{size} {figures(numbers)}"


def tell_weights(net):
    return listed_numbers(weights(net))


def tell_led(net, place, word):
    return str(led(net, place, word))


def tell_image(net, places, word):
    return figures(image(net, places, word))


def tell_pair(net, one, other):
    return word_or_never(call_of(net, (one, other)))


def tell_stable(net):
    return listed_sets(stable_pairs(net))


def tell_classes(net):
    return listed_sets(classes(net))


def tell_rings(net, sign):
    return listed_sets(rings(net, sign))


def tell_shortest(net, places):
    return word_or_never(shortest(net, places))


def tell_callers(net, m):
    if m > MOST_SIGNS_COUNTED:
        raise NoNumber("words of so many signs are not counted")
    return listed_numbers(counted(net, m))


def tell_wait(net):
    top, bottom = mean_wait(net)
    return f"{top}/{bottom}"


def tell_least(net):
    return listed_sets(least_images(net))


def tell_partings(net):
    return listed([written_sets(parting) for parting in least_partings(net)])


def tell_look(net, paper):
    try:
        look(net, paper)
    except NoPaper as fault:
        return f"no {fault.at}"
    return "yes"


QUESTIONS = {
    "net": tell_net, "number": tell_number, "signings": tell_signings, "parts": tell_parts, "beat": tell_beat,
    "weights": tell_weights, "led": tell_led, "image": tell_image, "pair": tell_pair, "stable": tell_stable,
    "classes": tell_classes, "rings": tell_rings, "shortest": tell_shortest, "callers": tell_callers,
    "wait": tell_wait, "least": tell_least, "partings": tell_partings, "look": tell_look,
}


class Desk:
    """Keeps a net, and the nets ahead of each deed that was not taken back."""

    def __init__(self, text):
        self.net = read_net(text)
        self.earlier = []

    def say(self, row):
        """The answer to a row."""
        name, things = read_row(row)
        if name == "undo":
            return self.take_back()
        if name in DEEDS:
            return self.do(name, things)
        ask = QUESTIONS[name]
        return ask(self.net, *things)

    def do(self, name, things):
        """Do a deed, and answer it; what is refused is refused before anything is kept."""
        before = self.net
        deed = DEEDS[name]
        self.net, answer = deed(before, *things)
        self.earlier.append(before)
        return answer

    def take_back(self):
        """Take the last deed back."""
        if not self.earlier:
            raise NoDeed("there is no deed to take back")
        self.net = self.earlier.pop()
        return "ok"
