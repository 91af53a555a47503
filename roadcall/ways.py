"""Where words lead, and what hangs together (points 5 and 6)."""

from roadcall.errors import NoWhole
from roadcall.nets import SIGNS, need_net, need_place, need_word

# Nine places have as many sets, the empty one left out.
MOST_SETS = 511


def end_of(net, place, word):
    """The place to which a word leads; for callers that have looked at all three."""
    for sign in word:
        place = net[place][SIGNS.index(sign)]
    return place


def led(net, place, word):
    """The place to which a word leads from a place."""
    need_net(net)
    need_place(net, place)
    need_word(net, word)
    return end_of(net, place, word)


def first_met(start, width, step, most=MOST_SETS):
    """A dict of all that is met from start on, each with its first shortest word, in their order.

    `step(met, at)` is where the sign with the number `at` leads; what comes up beyond `most` may be left out.
    """
    found = {start: ""}
    queue = [start]
    # What is met waits in the order of its words, so the first word that comes to a thing is the one.
    while queue and len(found) <= most:
        met = queue.pop(0)
        for at in range(width):
            goal = step(met, at)
            if goal not in found:
                found[goal] = found[met] + SIGNS[at]
                queue.append(goal)
    return found


def first_words(net, start):
    """A dict of the places to which words lead from start, with the first shortest word of each."""
    return first_met(start, len(net[0]), lambda place, at: net[place][at])


def way(net, start, goal):
    """The first shortest word that leads from a place to a place, or None."""
    need_net(net)
    need_place(net, start)
    need_place(net, goal)
    return first_words(net, start).get(goal)


def parts(net):
    """The parts of a net, as a list of lists, by their least places."""
    need_net(net)
    reached = [first_words(net, place) for place in range(len(net))]
    told = []
    for place in range(len(net)):
        part = [goal for goal in reached[place] if place in reached[goal]]
        if place == min(part):
            told.append(sorted(part))
    return told


def hangs_together(net):
    """Whether words lead from each place of a net to each."""
    return len(parts(net)) == 1


def need_whole(net):
    """Refuse what is no net, and a net that does not hang together."""
    if not hangs_together(net):
        raise NoWhole("the net does not hang together")
