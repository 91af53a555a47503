"""The signings of a net and their numbers (point 9)."""

import itertools
import unittest

from roadcall.beats import beat
from roadcall.errors import NoNet, NoNumber
from roadcall.signings import number_of, same_roads, signing, signings
from roadcall.ways import parts
from roadcall.weights import weights
from things import (CERNY, LONG, LOOP, LOOP3, NINE3, NO_NETS, OTHERS, ROUND6, is_whole_net, refuses_no_nets,
                    small_nets, some_nets)

UNLIKE = tuple(tuple((place + k) % 9 for k in (2, 7, 4)) for place in range(9))


def all_signings(net):
    """All signings of a small net, each once, sorted by Python."""
    rows = [set(itertools.permutations(row)) for row in net]
    return sorted(itertools.product(*rows))


def few(net):
    return len(all_signings(net)) if len(net) <= 5 else 10 ** 9


class SameRoads(unittest.TestCase):
    def both(self, one, other, want):
        self.assertIs(same_roads(one, other), want, (one, other))
        self.assertIs(same_roads(other, one), want, (one, other))

    def test_itself(self):
        for net in some_nets():
            self.both(net, net, True)

    def test_all_signings(self):
        for net in (CERNY, ((0, 1, 2), (1, 1, 0), (2, 2, 2))):
            for other in all_signings(net):
                self.both(net, other, True)

    def test_all_small_nets(self):
        nets = small_nets()
        for one in nets[::29]:
            known = all_signings(one)
            for other in nets:
                self.both(one, other, other in known)

    def test_a_goal_exchanged(self):
        for net in some_nets():
            if len(net) > 1:
                for place, row in enumerate(net):
                    changed = row[:-1] + ((row[-1] + 1) % len(net),)
                    self.both(net, net[:place] + (changed,) + net[place + 1:], False)

    def test_goals_as_often(self):
        # The same goals, but not as many roads to each.
        self.both(((0, 0, 1), (0, 0, 0)), ((0, 1, 1), (0, 0, 0)), False)

    def test_rows_exchanged(self):
        self.both(CERNY, (CERNY[1], CERNY[0]) + CERNY[2:], False)
        self.both(((0, 1), (1, 1)), ((1, 1), (0, 1)), False)

    def test_a_place_more(self):
        self.both(CERNY, CERNY + ((0, 0),), False)
        self.both(LOOP, ((0, 0), (0, 0)), False)

    def test_a_sign_more(self):
        self.both(LOOP, LOOP3, False)
        self.both(CERNY, tuple(row + (row[0],) for row in CERNY), False)

    def test_no_net(self):
        refuses_no_nets(self, NoNet, lambda net: same_roads(net, LOOP))
        refuses_no_nets(self, NoNet, lambda net: same_roads(LOOP, net))
        refuses_no_nets(self, NoNet, lambda net: same_roads(net, net))


class Numbers(unittest.TestCase):
    def test_small_nets(self):
        nets = small_nets()[::7] + [net for net in some_nets() if few(net) <= 300]
        for net in nets:
            known = all_signings(net)
            self.assertEqual(signings(net), len(known))
            self.assertEqual([signing(net, number) for number in range(len(known))], known)
            self.assertEqual([number_of(other) for other in known], list(range(len(known))))
            self.assertEqual(signing(net, number_of(net)), net)

    def test_by_the_goals_of_a_row(self):
        self.assertEqual(signings(((0, 0),)), 1)
        self.assertEqual(signings(((0, 1), (0, 0))), 2)
        self.assertEqual(signings(((0, 0, 0),)), 1)
        self.assertEqual(signings(((0, 0, 1), (0, 0, 0))), 3)
        self.assertEqual(signings(((1, 0, 1), (1, 1, 0))), 9)
        self.assertEqual(signings(((0, 1, 2), (0, 0, 0), (1, 1, 0))), 18)

    def test_first_rows_count_most(self):
        net = ((0, 1), (0, 1))
        self.assertEqual([signing(net, number) for number in range(4)],
                         [((0, 1), (0, 1)), ((0, 1), (1, 0)), ((1, 0), (0, 1)), ((1, 0), (1, 0))])
        net = ((0, 0, 1), (1, 1, 1))
        self.assertEqual([signing(net, number)[0] for number in range(3)], [(0, 0, 1), (0, 1, 0), (1, 0, 0)])

    def test_nine_places_and_three_ways(self):
        many = 6 ** 9
        self.assertEqual(signings(UNLIKE), many)
        least = tuple(tuple(sorted(row)) for row in UNLIKE)
        most = tuple(tuple(sorted(row, reverse=True)) for row in UNLIKE)
        self.assertEqual(signing(UNLIKE, 0), least)
        self.assertEqual(signing(UNLIKE, many - 1), most)
        self.assertEqual((number_of(least), number_of(most)), (0, many - 1))
        for number in (1, 5, 6, 4711, 1234567, many // 2, many - 2):
            net = signing(UNLIKE, number)
            self.assertIs(same_roads(UNLIKE, net), True)
            self.assertEqual(number_of(net), number)
            self.assertTrue(signing(UNLIKE, number - 1) < net < signing(UNLIKE, number + 1))
        # Each figure to the base six is the order of a row.
        orders = [sorted(itertools.permutations(row)) for row in UNLIKE]
        self.assertEqual(signing(UNLIKE, 2 * 6 ** 8 + 3 * 6 + 4),
                         (orders[0][2],) + least[1:7] + (orders[7][3], orders[8][4]))

    def test_no_matter_which_signing_is_handed_in(self):
        for net in all_signings(((0, 1, 2), (1, 1, 0), (2, 0, 2))):
            self.assertEqual(signings(net), 54)
            self.assertEqual(signing(net, 17), signing(((0, 1, 2), (1, 1, 0), (2, 0, 2)), 17))

    def test_no_number(self):
        for net in (LOOP, LOOP3, CERNY, NINE3, UNLIKE):
            many = signings(net)
            for thing in [many, many + 1, -1, -many, -LONG, LONG, str(many - 1), "0", 0 == 0, 0 == 1, (0,), [0]]:
                with self.assertRaises(NoNumber):
                    signing(net, thing)
        for thing in OTHERS:
            if thing not in (9, 10):
                with self.assertRaises(NoNumber):
                    signing(CERNY, thing)
            with self.assertRaises(NoNumber):
                signing(LOOP, thing)

    def test_no_net_goes_first(self):
        refuses_no_nets(self, NoNet, signings)
        refuses_no_nets(self, NoNet, number_of)
        for number in (0, -1, None, LONG, "0", []):
            refuses_no_nets(self, NoNet, lambda net: signing(net, number))
        self.assertGreater(len(NO_NETS), 50)


class AllSigningsAlike(unittest.TestCase):
    def test_parts_beats_and_weights(self):
        nets = [CERNY, ROUND6, ((0, 1, 2), (2, 1, 0), (1, 1, 2)), ((1, 2), (2, 0), (3, 3), (0, 3)),
                ((1, 1), (2, 0), (1, 3), (3, 3)), ((0, 1, 1), (1, 0, 2), (2, 2, 2))]
        for net in nets:
            for other in [signing(net, number) for number in range(signings(net))]:
                self.assertEqual(parts(other), parts(net))
                if is_whole_net(net):
                    self.assertEqual(beat(other), beat(net))
                    self.assertEqual(weights(other), weights(net))


if __name__ == "__main__":
    unittest.main()
