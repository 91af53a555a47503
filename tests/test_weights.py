"""The weights of a net that hangs together (point 8)."""

import math
import unittest

from roadcall.errors import NoNet, NoWhole
from roadcall.weights import weights
from things import (CERNY, LOOP, LOOP3, TURN, broken_nets, is_whole_net, refuses_no_nets, small_nets,
                    whole_nets)


def climbing(many, width):
    """A net in which a road goes one place on and all others back to 0: weights far apart."""
    return tuple((min(place + 1, many - 1),) + (0,) * (width - 1) for place in range(many))


class Weights(unittest.TestCase):
    def check(self, net):
        told = weights(net)
        self.assertIsInstance(told, tuple)
        self.assertEqual(len(told), len(net))
        for place, weight in enumerate(told):
            self.assertIs(type(weight), int)
            self.assertGreaterEqual(weight, 1)
            coming = sum(told[start] for start, row in enumerate(net) for goal in row if goal == place)
            self.assertEqual(weight * len(net[0]), coming, net)
        self.assertEqual(math.gcd(*told), 1)

    def test_nets_that_hang_together(self):
        nets = whole_nets(times=20)
        self.assertEqual({(len(net), len(net[0])) for net in nets},
                         {(many, width) for many in range(1, 10) for width in (2, 3)})
        for net in nets + [net for net in small_nets() if is_whole_net(net)]:
            self.check(net)

    def test_alike(self):
        self.assertEqual(weights(LOOP), (1,))
        self.assertEqual(weights(LOOP3), (1,))
        self.assertEqual(weights(TURN), (1, 1))
        for many in range(1, 10):
            for width in (2, 3):
                net = tuple(tuple((place + 1 + k) % many for k in range(width)) for place in range(many))
                self.assertEqual(weights(net), (1,) * many)
                net = tuple(((place + 1) % many,) * width for place in range(many))
                self.assertEqual(weights(net), (1,) * many)

    def test_far_apart(self):
        self.assertEqual(weights(climbing(9, 2)), (128, 64, 32, 16, 8, 4, 2, 1, 1))
        self.assertEqual(weights(climbing(9, 3)), tuple(2 * 3 ** (7 - k) for k in range(8)) + (1,))
        for many in range(1, 10):
            for width in (2, 3):
                self.check(climbing(many, width))

    def test_by_hand(self):
        self.assertEqual(weights(((0, 1), (0, 0))), (2, 1))
        self.assertEqual(weights(((0, 1, 1), (0, 0, 0))), (3, 2))
        self.assertEqual(weights(CERNY), (1, 2, 2, 2))

    def test_each_road_is_counted(self):
        # Two roads to one place count twice.
        self.assertEqual(weights(((1, 1, 0), (0, 1, 1))), (1, 2))

    def test_all_numberings_of_places(self):
        # Called by other numbers, places keep their weights.
        net = climbing(6, 2)
        turned = tuple(tuple((goal + 2) % 6 for goal in net[(place - 2) % 6]) for place in range(6))
        told = weights(net)
        self.assertEqual(weights(turned), told[-2:] + told[:-2])

    def test_no_whole(self):
        for net in broken_nets() + [net for net in small_nets() if not is_whole_net(net)]:
            with self.assertRaises(NoWhole):
                weights(net)

    def test_no_net(self):
        refuses_no_nets(self, NoNet, weights)


if __name__ == "__main__":
    unittest.main()
