"""The signings of a net, and their numbers (point 9)."""

from roadcall.errors import NoNumber
from roadcall.nets import need_net
from roadcall.whole import is_whole_below


def same_roads(one, other):
    """Whether two nets have the same roads."""
    need_net(one)
    need_net(other)
    return [sorted(row) for row in one] == [sorted(row) for row in other]


def arrangements(row):
    """The orders in which the goals of a row can stand, each once, sorted."""
    if row == ():
        return [()]
    found = set()
    for at, goal in enumerate(row):
        for rest in arrangements(row[:at] + row[at + 1:]):
            found.add((goal,) + rest)
    return sorted(found)


def signings(net):
    """How many signings a net has."""
    need_net(net)
    many = 1
    for row in net:
        many *= len(arrangements(row))
    return many


def number_of(net):
    """The number of a net among its signings."""
    need_net(net)
    number = 0
    # Python sorts nets by their first rows, so these count most.
    for row in net:
        choices = arrangements(row)
        number = number * len(choices) + choices.index(row)
    return number


def signing(net, number):
    """The signing of a number."""
    if not is_whole_below(number, signings(net)):
        raise NoNumber("this is no number of a signing")
    rows = []
    for row in reversed(net):
        choices = arrangements(row)
        number, at = divmod(number, len(choices))
        rows.append(choices[at])
    return tuple(reversed(rows))
