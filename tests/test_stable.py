"""Stable pairs, classes and the net of classes (points 16 and 17)."""

import itertools
import unittest

from roadcall.errors import NoNet
from roadcall.nets import is_net
from roadcall.pairs import call_of, led_pairs
from roadcall.stable import classes, net_of_classes, stable_pairs
from things import (CERNY, LONG_CALLS, LOOP, LOOP3, NINE, NO_STABLE6, NO_STABLE9, PRISM, ROUND6, TURN, pairs_of,
                    plain_stable, refuses_no_nets, small_nets, some_nets, tells_lists_of_its_own)

# Some pairs stable, others not: 1 and 2 go the same ways.
SOME = ((1, 2), (0, 0), (0, 0))
# 0 and 1 are called together by a, but b leads them to 2 and 3, which never are.
CALLED_NOT_STABLE = ((0, 2), (0, 3), (2, 2), (3, 3))
WITHOUT = [LOOP, LOOP3, TURN, PRISM, NO_STABLE6, NO_STABLE9, ((0, 0), (1, 1)), ((1, 2, 0), (2, 0, 1), (0, 1, 2))]


def nets():
    return small_nets() + some_nets(times=6) + LONG_CALLS + WITHOUT + [SOME, CALLED_NOT_STABLE]


class StablePairs(unittest.TestCase):
    def test_by_their_own_words(self):
        for net in nets():
            told = stable_pairs(net)
            self.assertIsInstance(told, list)
            self.assertEqual(told, plain_stable(net))

    def test_each_to_which_one_is_led_can_be_called_together(self):
        for net in some_nets(seed=3, times=4):
            told = stable_pairs(net)
            for pair in pairs_of(net):
                want = all(call_of(net, other) is not None for other in led_pairs(net, pair))
                self.assertEqual(pair in told, want)

    def test_none(self):
        for net in WITHOUT:
            self.assertEqual(stable_pairs(net), [])

    def test_some(self):
        self.assertEqual(stable_pairs(SOME), [(1, 2)])
        self.assertEqual(stable_pairs(ROUND6), [(1, 2), (3, 4)])

    def test_all(self):
        for net in [CERNY, NINE, ((0, 0), (0, 0))] + LONG_CALLS:
            self.assertEqual(stable_pairs(net), pairs_of(net))

    def test_called_together_but_not_stable(self):
        self.assertEqual(call_of(CALLED_NOT_STABLE, (0, 1)), "a")
        self.assertIsNone(call_of(CALLED_NOT_STABLE, (2, 3)))
        self.assertEqual(stable_pairs(CALLED_NOT_STABLE), [(0, 2)])

    def test_an_equality_that_every_sign_keeps(self):
        for net in nets():
            told = stable_pairs(net)
            alike = set(told) | {(other, one) for one, other in told} | {(place, place) for place in range(len(net))}
            for one, other in alike:
                for goal, far in zip(net[one], net[other]):
                    self.assertIn((goal, far), alike)
                for third in range(len(net)):
                    if (other, third) in alike:
                        self.assertIn((one, third), alike)

    def test_lists_are_the_askers_own(self):
        for net in (LOOP, SOME, ROUND6, CERNY):
            tells_lists_of_its_own(self, lambda: stable_pairs(net))

    def test_no_net(self):
        refuses_no_nets(self, NoNet, stable_pairs)


class Classes(unittest.TestCase):
    def test_each_place_in_one(self):
        for net in nets():
            told = classes(net)
            self.assertIsInstance(told, list)
            self.assertEqual(sorted(place for group in told for place in group), list(range(len(net))))
            self.assertEqual([group[0] for group in told], sorted(min(group) for group in told))
            for group in told:
                self.assertIsInstance(group, list)
                self.assertEqual(group, sorted(group))

    def test_one_class_where_they_are_a_stable_pair(self):
        for net in nets():
            stable = plain_stable(net)
            told = classes(net)
            for pair in pairs_of(net):
                together = any(pair[0] in group and pair[1] in group for group in told)
                self.assertEqual(together, pair in stable)

    def test_signs_lead_a_class_into_one(self):
        for net in nets():
            told = classes(net)
            for group, at in itertools.product(told, range(len(net[0]))):
                goals = {net[place][at] for place in group}
                self.assertEqual(len([other for other in told if goals & set(other)]), 1)

    def test_by_hand(self):
        self.assertEqual(classes(LOOP), [[0]])
        self.assertEqual(classes(TURN), [[0], [1]])
        self.assertEqual(classes(SOME), [[0], [1, 2]])
        self.assertEqual(classes(ROUND6), [[0], [1, 2], [3, 4], [5]])
        self.assertEqual(classes(CERNY), [[0, 1, 2, 3]])
        # The class with the least place goes first, though it has the greatest one, too.
        self.assertEqual(classes(((1, 1), (0, 2), (1, 1))), [[0, 2], [1]])

    def test_lists_are_the_askers_own(self):
        for net in (LOOP, SOME, ROUND6, CERNY):
            tells_lists_of_its_own(self, lambda: classes(net))

    def test_no_net(self):
        refuses_no_nets(self, NoNet, classes)


class NetOfClasses(unittest.TestCase):
    def test_its_rows(self):
        for net in nets():
            small, groups = net_of_classes(net), classes(net)
            self.assertTrue(is_net(small))
            self.assertEqual(len(small), len(groups))
            self.assertEqual(len(small[0]), len(net[0]))
            for number, group in enumerate(groups):
                for place in group:
                    for at, goal in enumerate(net[place]):
                        self.assertIn(goal, groups[small[number][at]])

    def test_it_has_no_stable_pair(self):
        for net in nets():
            small = net_of_classes(net)
            self.assertEqual(stable_pairs(small), [])
            self.assertEqual(net_of_classes(small), small)

    def test_without_stable_pairs_it_is_the_net(self):
        for net in WITHOUT:
            self.assertEqual(net_of_classes(net), net)

    def test_by_hand(self):
        self.assertEqual(net_of_classes(SOME), ((1, 1), (0, 0)))
        self.assertEqual(net_of_classes(ROUND6), ((1, 1), (2, 2), (3, 3), (0, 0)))
        self.assertEqual(net_of_classes(CERNY), ((0, 0),))
        self.assertEqual(net_of_classes(((0, 0, 1), (1, 1, 0))), ((0, 0, 1), (1, 1, 0)))

    def test_no_net(self):
        refuses_no_nets(self, NoNet, net_of_classes)


if __name__ == "__main__":
    unittest.main()
