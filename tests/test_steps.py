"""Steps to a stable pair, or to more places on rings (point 21)."""

import itertools
import unittest
from unittest import mock

from roadcall.errors import NoNet, NoStep, NoWhole
from roadcall.exchanges import exchanged
from roadcall.steps import steps
from things import (CERNY, LONG_CALLS, LOOP, LOOP3, NO_STABLE6, NO_STABLE9, PRISM, TURN, all_on_rings, all_signings,
                    beat_nets, broken_nets, fewest, is_whole_net, plain_stable, refuses_no_nets, small_nets,
                    tells_lists_of_its_own, whole_nets)

# From each place all roads lead to one, and the net is a ring.
ONE_RING = [tuple(((place + 1) % many,) * width for place in range(many)) for many in range(1, 10) for width in (2, 3)]
# Nets without a stable pair, on which one exchange has to be done, with tails and without.
ONE = [
    PRISM, NO_STABLE6, NO_STABLE9, ((1, 0), (0, 1)), ((1, 2, 0), (2, 0, 1), (0, 1, 2)),
    ((2, 2), (0, 6), (3, 1), (0, 0), (6, 6), (4, 2), (7, 5), (4, 4)),
    ((2, 1), (0, 3), (0, 0), (5, 7), (3, 6), (6, 6), (8, 4), (6, 0), (3, 3)),
    ((2, 2, 4), (0, 8, 0), (3, 3, 3), (5, 5, 7), (3, 2, 3), (6, 6, 6), (8, 8, 1), (6, 5, 6), (0, 0, 0)),
]


def has_choice(net):
    return any(len(set(row)) > 1 for row in net)


def on_rings(net):
    """How many places the sign a brings back to themselves."""
    places = set(range(len(net)))
    for _ in net:
        places = {net[place][0] for place in places}
    return len(places)


def is_step(net, other):
    return bool(plain_stable(other)) or on_rings(other) > on_rings(net)


def all_exchanges(net):
    return [(place, one, other) for place in range(len(net))
            for one, other in itertools.combinations("abc"[:len(net[0])], 2)]


def behind(net, told):
    for place, one, other in told:
        net = exchanged(net, place, one, other)
    return net


def nets_with_steps():
    nets = whole_nets(times=8) + beat_nets(times=2) + all_on_rings() + LONG_CALLS + ONE
    nets += [net for net in small_nets() if is_whole_net(net)]
    return [net for net in nets if has_choice(net)]


def as_if_good(goals):
    """Let steps believe that just these nets have a stable pair, and that no net has more places on rings."""
    return mock.patch.multiple("roadcall.steps", stable_pairs=lambda net: [(0, 1)] if net in goals else [],
                               many_on_rings=lambda net: 1)


class Steps(unittest.TestCase):
    def check(self, net):
        """What is told is a step, and no list of fewer exchanges is one."""
        told = steps(net)
        self.assertIsInstance(told, list)
        for step in told:
            self.assertIsInstance(step, tuple)
            self.assertIn(step, all_exchanges(net))
        self.assertTrue(is_step(net, behind(net, told)), net)
        for fewer in range(len(told)):
            for others in itertools.product(all_exchanges(net), repeat=fewer):
                self.assertFalse(is_step(net, behind(net, others)), (net, others))
        return told

    def test_against_trial(self):
        met = {(len(net), len(net[0]), len(self.check(net))) for net in nets_with_steps()}
        for many in range(2, 10):
            for width in (2, 3):
                for told in (0, 1):
                    self.assertIn((many, width, told), met)

    def test_none_where_there_is_a_stable_pair(self):
        for net in [CERNY] + LONG_CALLS + whole_nets(seed=5, times=6):
            if has_choice(net) and plain_stable(net):
                self.assertEqual(steps(net), [])

    def test_one_exchange(self):
        for net in ONE + all_on_rings(seed=2):
            if has_choice(net):
                self.assertEqual(plain_stable(net), [])
                self.assertEqual(len(self.check(net)), 1)

    def test_each_signing(self):
        for net in (PRISM, NO_STABLE6):
            for other in all_signings(net):
                self.check(other)

    def test_as_few_as_can_be_where_more_than_one_has_to_be_done(self):
        # A search of all nets of at most nine places found none that needs two; so which are good is made up here.
        for net in (PRISM, ((0, 1, 2), (1, 2, 0), (2, 2, 1)), ((1, 2, 0), (2, 0, 1), (0, 1, 2))):
            for goal in all_signings(net):
                with as_if_good([goal]):
                    told = steps(net)
                self.assertEqual(behind(net, told), goal)
                self.assertEqual(len(told), sum(fewest(row, other) for row, other in zip(net, goal)))

    def test_the_nearest_of_several(self):
        for net, stride in ((PRISM, 1), (((0, 1, 2), (1, 2, 0), (2, 2, 1)), 41)):
            far = {goal: sum(fewest(row, other) for row, other in zip(net, goal)) for goal in all_signings(net)}
            for goals in list(itertools.combinations(far, 2))[::stride]:
                with as_if_good(goals):
                    told = steps(net)
                self.assertIn(behind(net, told), goals)
                self.assertEqual(len(told), min(far[goal] for goal in goals))

    def test_more_places_on_rings_are_enough(self):
        net = NO_STABLE6
        goals = [other for other in all_signings(net) if on_rings(other) > on_rings(net)]
        self.assertTrue(goals)
        with mock.patch("roadcall.steps.stable_pairs", lambda net: []):
            told = steps(net)
        self.assertIn(behind(net, told), goals)

    def test_lists_are_the_askers_own(self):
        for net in ONE + [CERNY]:
            tells_lists_of_its_own(self, lambda: steps(net))

    def test_no_whole(self):
        for net in broken_nets():
            with self.assertRaises(NoWhole):
                steps(net)

    def test_no_step(self):
        for net in [LOOP, LOOP3, TURN] + ONE_RING:
            with self.assertRaises(NoStep):
                steps(net)

    def test_no_whole_goes_ahead_of_no_step(self):
        for net in (((0, 0), (1, 1)), ((0, 0), (0, 0)), ((1, 1, 1), (0, 0, 0), (2, 2, 2)), ((1, 1), (1, 1))):
            with self.assertRaises(NoWhole):
                steps(net)

    def test_no_net(self):
        refuses_no_nets(self, NoNet, steps)


if __name__ == "__main__":
    unittest.main()
