"""A signing and a word that leaves as many places as the beat says (point 22)."""

import random
import time
import unittest

from roadcall.calling import called
from roadcall.errors import NoNet, NoWhole
from roadcall.nets import is_net, is_word
from roadcall.signings import same_roads, signings
from things import (CERNY, LONG_CALLS, LOOP, LOOP3, NINE, NINE3, NO_STABLE6, NO_STABLE9, PRISM, ROUND6, TURN,
                    all_nets, all_on_rings, all_signings, beat_nets, beat_of, broken_nets, is_whole_net, least_left,
                    refuses_no_nets, small_nets, walk, whole_nets)


def alike_nets():
    """Nets that hang together in which from many places two roads, or all, lead to one place."""
    chance = random.Random(6)
    nets = []
    for many in range(2, 10):
        for width in (2, 3):
            for _ in range(6):
                net = [[(place + 1) % many] * width for place in range(many)]
                for _ in range(chance.randrange(3)):
                    net[chance.randrange(many)][chance.randrange(width)] = chance.randrange(many)
                nets.append(tuple(tuple(row) for row in net))
    return [net for net in nets if is_whole_net(net)]


class Called(unittest.TestCase):
    def check(self, net):
        told = called(net)
        self.assertIsInstance(told, tuple)
        signing, word = told
        self.assertTrue(is_net(signing))
        self.assertTrue(same_roads(net, signing))
        self.assertEqual([sorted(row) for row in net], [sorted(row) for row in signing])
        self.assertTrue(is_word(signing, word))
        self.assertLessEqual(len(word), 2000)
        left = len({walk(signing, place, word) for place in range(len(net))})
        self.assertEqual(left, beat_of(net), net)

    def test_small_nets(self):
        for net in small_nets() + all_nets(3, 3)[::41] + all_nets(4, 2)[::97]:
            if is_whole_net(net):
                self.check(net)

    def test_nets_of_one_to_nine_places(self):
        for net in whole_nets(times=12) + all_on_rings(times=6) + LONG_CALLS:
            self.check(net)

    def test_every_beat(self):
        nets = beat_nets(times=6)
        beats = {(len(net), beat_of(net)) for net in nets}
        for many in range(1, 10):
            # One, some between, and as many as places.
            self.assertIn((many, 1), beats)
            self.assertIn((many, many), beats)
        for some in ((4, 2), (6, 2), (6, 3), (8, 2), (8, 4), (9, 2), (9, 3), (9, 4), (9, 8)):
            self.assertIn(some, beats)
        for net in nets:
            self.check(net)

    def test_roads_that_lead_alike(self):
        for net in alike_nets():
            self.check(net)

    def test_nets_without_stable_pairs(self):
        for net in (TURN, PRISM, NO_STABLE6, NO_STABLE9):
            self.check(net)

    def test_by_hand(self):
        self.assertEqual(called(LOOP), (LOOP, ""))
        self.assertEqual(called(LOOP3), (LOOP3, ""))
        for net in (CERNY, NINE, NINE3, ROUND6):
            self.check(net)

    def test_a_ring(self):
        for many in range(1, 10):
            for width in (2, 3):
                net = tuple(((place + 1) % many,) * width for place in range(many))
                self.assertEqual(called(net)[0], net)
                self.check(net)

    def test_each_signing(self):
        for net in (PRISM, NO_STABLE6, ((1, 2, 0), (2, 0, 1), (0, 1, 2))):
            for other in all_signings(net):
                self.check(other)

    def test_no_word_of_any_signing_leaves_fewer(self):
        # Point 3, of nets with few signings.
        for net in whole_nets(seed=7, times=3) + beat_nets(seed=7, times=1):
            if signings(net) <= 32:
                self.assertEqual(min(least_left(other) for other in all_signings(net)), beat_of(net))
                self.check(net)

    def test_far_too_many_signings_within_seconds(self):
        nets = [tuple(zip(*[[(place + turn) % 9 for place in range(9)] for turn in turns]))
                for turns in ((1, 2, 3), (1, 4, 7), (0, 1, 3), (3, 6, 1))]
        nets += [net for net in all_on_rings(seed=8, times=8) if len(net) == 9 and len(net[0]) == 3]
        nets += [net for net in beat_nets(seed=8, times=6) if len(net) == 9 and len(net[0]) == 3]
        self.assertEqual(signings(nets[0]), 6 ** 9)
        for net in nets:
            begun = time.monotonic()
            self.check(net)
            self.assertLess(time.monotonic() - begun, 10)

    def test_no_whole(self):
        for net in broken_nets() + [((0, 0), (1, 1)), ((0, 0), (0, 1)), ((1, 1, 1), (1, 1, 1))]:
            with self.assertRaises(NoWhole):
                called(net)

    def test_no_net(self):
        refuses_no_nets(self, NoNet, called)


if __name__ == "__main__":
    unittest.main()
