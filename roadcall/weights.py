"""The weights of a net that hangs together (point 8)."""

from roadcall.ways import need_whole
from roadcall.whole import common_divisor


def road_counts(net):
    """A list of lists: how many roads lead from each place to each."""
    return [[row.count(goal) for goal in range(len(net))] for row in net]


def without_last(counts):
    """The counts among all places but the last: those by way of the last one are put in."""
    last = len(counts) - 1
    # Roads from the last place to itself change no weight; as the net hangs together, some
    # lead elsewhere. All is taken that many times, so that no fractions come up.
    leaving = sum(counts[last][:last])
    return [[leaving * row[goal] + row[last] * counts[last][goal] for goal in range(last)]
            for row in counts[:last]]


def shrunk(numbers):
    """The numbers, divided by the greatest whole number that divides them all."""
    size = 0
    for number in numbers:
        size = common_divisor(size, number)
    return [number // size for number in numbers]


def weights(net):
    """A tuple of the weights of the places."""
    need_whole(net)
    stages = [road_counts(net)]
    while len(stages[-1]) > 1:
        stages.append(without_last(stages[-1]))
    told = [1]
    # Place by place comes back: its weight, times the roads that leave it, is what comes to it.
    for counts in reversed(stages[:-1]):
        last = len(told)
        coming = sum(weight * row[last] for weight, row in zip(told, counts))
        leaving = sum(counts[last][:last])
        told = shrunk([weight * leaving for weight in told] + [coming])
    return tuple(told)
