"""The refusals: each a RoadError, none under another one."""


class RoadError(ValueError):
    """Whatever the program refuses."""


class NoNet(RoadError):
    """What is handed in as a net is none."""


class NoPlace(RoadError):
    """What is handed in as a place of a net is none."""


class NoSign(RoadError):
    """What is handed in as a sign of a net is none, or two signs are not in their order."""


class NoWord(RoadError):
    """What is handed in as a word of a net is none."""


class NoWhole(RoadError):
    """The net does not hang together."""


class NoNumber(RoadError):
    """What is handed in is the number of nothing."""


class NoKin(RoadError):
    """Two nets do not have the same roads."""


class NoSet(RoadError):
    """What is handed in as a set of places is none."""


class NoPair(RoadError):
    """What is handed in as a pair of places is none."""


class NoStep(RoadError):
    """From each place of the net all roads lead to one place."""


class NoCall(RoadError):
    """The places of the net cannot all be called together."""


class TooMany(RoadError):
    """There are more than can be told."""


class NoPaper(RoadError):
    """What is handed in as a paper does not show what it says; `at` is where it fails first."""

    def __init__(self, at=0):
        super().__init__(f"the paper is not as told at its thing {at}")
        self.at = at


class NoText(RoadError):
    """What is handed in is not written as told."""


class NoRow(RoadError):
    """What is said to a desk is no row that it knows."""


class NoDeed(RoadError):
    """There is no deed to take back."""
