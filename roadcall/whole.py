"""Whole numbers, for all modules."""


def is_whole(thing):
    """Whether any thing is a whole number."""
    # Python counts truths among the ints; the document does not.
    return isinstance(thing, int) and not isinstance(thing, bool)


def is_whole_below(thing, many):
    """Whether any thing is a whole number from 0 on, below many."""
    return is_whole(thing) and 0 <= thing < many


def common_divisor(one, other):
    """The greatest whole number that divides both, from 0 on; 0 where both are 0."""
    one, other = abs(one), abs(other)
    while other > 0:
        one, other = other, one % other
    return one
