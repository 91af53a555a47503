"""How long it takes by chance till everybody stands at one place (point 26)."""

from roadcall.callers import goals_of_sets
from roadcall.errors import NoCall, TooMany
from roadcall.pairs import never_called
from roadcall.weights import shrunk

MOST_SETS_MET = 24


def wait_row(goals, places):
    """What is known of the wait from a set on: first a sum, then how many times the wait of each set goes into it."""
    if len(places) == 1:
        return [0] + [1 if other == places else 0 for other in goals]
    signs = len(goals[places])
    # Its wait is one sign and the mean of what comes then; taken so many times as there are signs, that is whole.
    return [signs] + [(signs if other == places else 0) - goals[places].count(other) for other in goals]


def without_last_wait(rows):
    """The rows without the last set: what the last row tells of its wait is put into the others."""
    last = rows[-1]
    told = []
    for row in rows[:-1]:
        # The last number of the last row stays above 0, as from each set on words call together.
        told.append(shrunk([row[at] * last[-1] - last[at] * row[-1] for at in range(len(row) - 1)]))
    return told


def mean_wait(net):
    """A tuple (top, bottom): the mean number of signs till everybody stands at one place for the first time."""
    if never_called(net):
        raise NoCall("the places cannot all be called together")
    goals = goals_of_sets(net)
    if len(goals) > MOST_SETS_MET:
        raise TooMany("too many sets are met")
    rows = [wait_row(goals, places) for places in goals]
    while len(rows) > 1:
        rows = without_last_wait(rows)
    top, bottom = shrunk(rows[0])
    return top, bottom
