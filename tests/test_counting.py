"""How many signings can be called as far as the beat says (point 23)."""

import unittest

from roadcall.counting import called_signings
from roadcall.errors import NoNet, NoWhole, TooMany
from roadcall.signings import signing, signings
from things import (CERNY, LOOP, LOOP3, NINE3, NO_STABLE6, PRISM, TURN, all_nets, all_on_rings, all_signings, beat_nets,
                    beat_of, broken_nets, is_whole_net, least_left, refuses_no_nets, small_nets, whole_nets)

# Nets of just 64 signings, of six to nine places: from six places two roads lead apart, from the others none do.
JUST = [tuple(((place + 1) % many, (place + 2 + place % 3) % many if place < 6 else (place + 1) % many)
              for place in range(many)) for many in range(6, 10)]
# As many as come next below and above in nets of two and of three ways.
BELOW3 = ((0, 1, 2), (1, 2, 2), (2, 0, 0))
ABOVE = [
    tuple(((place + 1) % 7, (place + 2 + place % 3) % 7) for place in range(7)),
    ((0, 1, 2), (0, 1, 2), (0, 0, 1)), ((0, 1, 2), (2, 1, 0), (1, 2, 0)),
    ((1, 1, 0), (2, 2, 0), (3, 3, 0), (0, 0, 1)), NINE3,
]


def trial(net):
    """Every signing, tried one by one."""
    beat = beat_of(net)
    found = [number for number, other in enumerate(all_signings(net)) if least_left(other) == beat]
    return len(found), found[0]


class CalledSignings(unittest.TestCase):
    def check(self, net):
        told = called_signings(net)
        self.assertIsInstance(told, tuple)
        self.assertEqual(told, trial(net), net)
        self.assertEqual(least_left(signing(net, told[1])), beat_of(net))

    def test_small_nets(self):
        for net in small_nets() + all_nets(3, 3)[::173] + all_nets(4, 2)[::211]:
            if is_whole_net(net) and signings(net) <= 64:
                self.check(net)

    def test_larger_nets(self):
        for net in whole_nets(times=4) + beat_nets(times=1) + all_on_rings():
            if signings(net) <= 64:
                self.check(net)
            else:
                with self.assertRaises(TooMany):
                    called_signings(net)

    def test_by_hand(self):
        self.assertEqual(called_signings(LOOP), (1, 0))
        self.assertEqual(called_signings(LOOP3), (1, 0))
        self.assertEqual(called_signings(TURN), (1, 0))
        # Of the four signings of it two are called together at once, in two all places stay on rings.
        self.assertEqual(called_signings(((0, 1), (0, 1))), (2, 0))
        self.assertEqual(called_signings(((0, 1), (1, 0))), (2, 0))

    def test_the_first_is_not_always_the_first_of_all(self):
        firsts = {called_signings(net)[1] for net in all_nets(3, 2) + all_nets(4, 2)[::29] if is_whole_net(net)}
        self.assertGreater(len(firsts), 1)

    def test_all_signings_of_a_net_have_the_same_answer(self):
        for net in (PRISM, NO_STABLE6, CERNY):
            self.assertEqual({called_signings(other) for other in all_signings(net)}, {trial(net)})

    def test_just_sixty_four(self):
        for net in JUST:
            self.assertEqual(signings(net), 64)
            self.assertTrue(is_whole_net(net))
            self.check(net)
        self.assertEqual(signings(BELOW3), 54)
        self.check(BELOW3)

    def test_too_many(self):
        self.assertEqual([signings(net) for net in ABOVE[:4]], [128, 108, 216, 81])
        for net in ABOVE:
            self.assertTrue(is_whole_net(net))
            with self.assertRaises(TooMany):
                called_signings(net)

    def test_no_whole(self):
        for net in broken_nets():
            with self.assertRaises(NoWhole):
                called_signings(net)

    def test_no_whole_goes_ahead_of_too_many(self):
        for net in (((0, 1, 2),) * 3 + ((0, 1, 2),), tuple((0, 1) for _ in range(9)), ((1, 2, 3),) * 4):
            self.assertGreater(signings(net), 64)
            with self.assertRaises(NoWhole):
                called_signings(net)

    def test_no_net(self):
        refuses_no_nets(self, NoNet, called_signings)


if __name__ == "__main__":
    unittest.main()
