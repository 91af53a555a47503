"""How many signings of a net can be called as far as the beat says (point 23)."""

from roadcall.beats import beat
from roadcall.errors import TooMany
from roadcall.pairs import never_called
from roadcall.signings import signing, signings

MOST_SIGNINGS = 64


def called_signings(net):
    """A tuple of how many signings have a word that leaves as many places as the beat says, and the first's number."""
    numbers = beat(net)[1]
    many = signings(net)
    if many > MOST_SIGNINGS:
        raise TooMany("the net has too many signings")
    found = [number for number in range(many) if is_called(signing(net, number), numbers)]
    return len(found), found[0]


def is_called(net, numbers):
    """Whether some word leaves one place of each number of the beat."""
    # It does where each two places of one number can be called together: then one pair behind the other is.
    return all(numbers[one] != numbers[other] for one, other in never_called(net))
