"""Rings, heights, roots and top pairs (points 19 and 20)."""

import unittest

from roadcall.errors import NoNet, NoSign
from roadcall.rings import heights, rings, roots, top_pairs
from things import (CERNY, LONG, LONG_CALLS, LOOP, LOOP3, NINE3, OTHERS, PRISM, TURN, is_whole_net, plain_stable,
                    refuses_no_nets, small_nets, some_nets, tells_lists_of_its_own, whole_nets)

CALLS = (rings, heights, roots, top_pairs)
NO_SIGNS = OTHERS + ["d", "A", "ab", "abc", "aa", "ba", "", " a", "a\n", ["a"], ("a",), 0, 1]


def net_of(goals, sign="a", width=2):
    """A net in which the sign has these goals, and all others lead to 0."""
    spot = "abc".index(sign)
    return tuple(tuple(goal if at == spot else 0 for at in range(width)) for goal in goals)


def nets():
    return small_nets() + some_nets(times=6) + LONG_CALLS


def signs(net):
    return "abc"[:len(net[0])]


def said(net, sign, place, times):
    for _ in range(times):
        place = net[place]["abc".index(sign)]
    return place


def is_on_ring(net, sign, place):
    return any(said(net, sign, place, times) == place for times in range(1, len(net) + 1))


class Rings(unittest.TestCase):
    def test_each_sign(self):
        for net in nets():
            for sign in signs(net):
                told = rings(net, sign)
                self.assertIsInstance(told, list)
                for ring in told:
                    self.assertIsInstance(ring, list)
                    self.assertEqual(ring[0], min(ring))
                    for at, place in enumerate(ring):
                        self.assertEqual(said(net, sign, place, 1), ring[(at + 1) % len(ring)])
                self.assertEqual([ring[0] for ring in told], sorted(ring[0] for ring in told))
                want = [place for place in range(len(net)) if is_on_ring(net, sign, place)]
                self.assertEqual(sorted(place for ring in told for place in ring), want)

    def test_by_hand(self):
        self.assertEqual(rings(LOOP, "a"), [[0]])
        self.assertEqual(rings(LOOP3, "c"), [[0]])
        self.assertEqual(rings(TURN, "b"), [[0, 1]])
        self.assertEqual(rings(CERNY, "a"), [[1], [2], [3]])
        self.assertEqual(rings(CERNY, "b"), [[0, 1, 2, 3]])
        self.assertEqual(rings(net_of((3, 0, 1, 2)), "a"), [[0, 3, 2, 1]])
        self.assertEqual(rings(net_of((2, 4, 0, 3, 5, 1, 3, 6, 7)), "a"), [[0, 2], [1, 4, 5], [3]])
        self.assertEqual(rings(net_of((1, 2, 3, 4, 5, 6, 7, 8, 8)), "a"), [[8]])

    def test_each_sign_has_its_own(self):
        net = ((1, 0, 0), (2, 2, 0), (0, 1, 0))
        self.assertEqual([rings(net, sign) for sign in "abc"], [[[0, 1, 2]], [[0], [1, 2]], [[0]]])

    def test_lists_are_the_askers_own(self):
        for net, sign in ((LOOP, "a"), (CERNY, "a"), (CERNY, "b"), (NINE3, "c")):
            tells_lists_of_its_own(self, lambda: rings(net, sign))


class HeightsAndRoots(unittest.TestCase):
    def test_each_sign(self):
        for net in nets():
            for sign in signs(net):
                high, ends = heights(net, sign), roots(net, sign)
                self.assertIsInstance(high, tuple)
                self.assertIsInstance(ends, tuple)
                want = [min(times for times in range(len(net)) if is_on_ring(net, sign, said(net, sign, place, times)))
                        for place in range(len(net))]
                self.assertEqual(high, tuple(want))
                self.assertEqual(ends, tuple(said(net, sign, place, want[place]) for place in range(len(net))))

    def test_long_tails(self):
        net = net_of((1, 2, 3, 4, 5, 6, 7, 8, 8))
        self.assertEqual(heights(net, "a"), (8, 7, 6, 5, 4, 3, 2, 1, 0))
        self.assertEqual(roots(net, "a"), (8,) * 9)
        net = net_of((0, 0, 1, 2, 3, 4, 5, 6, 7), "c", 3)
        self.assertEqual(heights(net, "c"), (0, 1, 2, 3, 4, 5, 6, 7, 8))
        self.assertEqual(roots(net, "c"), (0,) * 9)

    def test_several_rings(self):
        net = net_of((1, 0, 3, 4, 2, 1, 5, 4, 8))
        self.assertEqual(heights(net, "a"), (0, 0, 0, 0, 0, 1, 2, 1, 0))
        self.assertEqual(roots(net, "a"), (0, 1, 2, 3, 4, 1, 1, 4, 8))
        self.assertEqual(heights(net, "b"), (0,) + (1,) * 8)
        self.assertEqual(roots(net, "b"), (0,) * 9)

    def test_all_on_rings(self):
        for net in (LOOP, TURN, PRISM):
            for sign in "ab":
                self.assertEqual(heights(net, sign), (0,) * len(net))
                self.assertEqual(roots(net, sign), tuple(range(len(net))))


class TopPairs(unittest.TestCase):
    def want(self, net, sign):
        """The top pairs as point 20 tells them."""
        high, ends = heights(net, sign), roots(net, sign)
        top = [place for place in range(len(net)) if high[place] == max(high)]
        if max(high) == 0 or len({ends[place] for place in top}) > 1:
            return []
        root = ends[top[0]]
        ahead = [place for ring in rings(net, sign) for place in ring if said(net, sign, place, 1) == root]
        self.assertEqual(len(ahead), 1)
        found = set()
        for place in top:
            last = said(net, sign, place, high[place] - 1)
            found.add((min(ahead[0], last), max(ahead[0], last)))
        return sorted(found)

    def test_each_sign(self):
        for net in nets():
            for sign in signs(net):
                told = top_pairs(net, sign)
                self.assertIsInstance(told, list)
                self.assertEqual(told, self.want(net, sign))

    def test_all_on_rings(self):
        for net in (LOOP, LOOP3, TURN, PRISM):
            self.assertEqual(top_pairs(net, "a"), [])
        self.assertEqual(top_pairs(CERNY, "b"), [])

    def test_several_roots(self):
        self.assertEqual(top_pairs(net_of((0, 1, 0, 1)), "a"), [])
        # Two roots on one ring are two roots all the same.
        self.assertEqual(top_pairs(net_of((1, 0, 0, 1)), "a"), [])
        self.assertEqual(top_pairs(net_of((1, 0, 0, 1, 2)), "a"), [(1, 2)])

    def test_a_root_on_a_ring_of_one(self):
        self.assertEqual(top_pairs(net_of((0, 0)), "a"), [(0, 1)])
        self.assertEqual(top_pairs(net_of((1, 1)), "a"), [(0, 1)])
        self.assertEqual(top_pairs(net_of((1, 2, 3, 4, 4)), "a"), [(3, 4)])
        self.assertEqual(top_pairs(CERNY, "a"), [(0, 1)])

    def test_a_root_on_a_longer_ring(self):
        self.assertEqual(top_pairs(net_of((1, 2, 0, 0)), "a"), [(2, 3)])
        self.assertEqual(top_pairs(net_of((3, 0, 1, 2, 3, 4)), "a"), [(0, 4)])
        self.assertEqual(top_pairs(net_of((5, 0, 1, 3, 2, 4)), "a"), [])
        self.assertEqual(top_pairs(net_of((1, 0, 0), "b"), "b"), [(1, 2)])

    def test_sorted_and_each_once(self):
        # Two places of the greatest height come by one place, a third by another one; lower ones do not count.
        net = net_of((0, 0, 0, 2, 2, 1, 0))
        self.assertEqual(heights(net, "a"), (0, 1, 1, 2, 2, 2, 1))
        self.assertEqual(top_pairs(net, "a"), [(0, 1), (0, 2)])
        net = net_of((8, 8, 8, 2, 2, 1, 8, 0, 6))
        self.assertEqual(top_pairs(net, "a"), [(0, 6), (1, 6), (2, 6)])

    def test_stable_in_nets_that_hang_together(self):
        many = 0
        for net in whole_nets(times=12) + [net for net in small_nets() if is_whole_net(net)] + LONG_CALLS:
            stable = plain_stable(net)
            for sign in signs(net):
                for pair in top_pairs(net, sign):
                    self.assertIn(pair, stable)
                    many += 1
        self.assertGreater(many, 100)

    def test_lists_are_the_askers_own(self):
        for net, sign in ((LOOP, "a"), (CERNY, "a"), (CERNY, "b"), (net_of((0, 0, 0, 2, 1)), "a")):
            tells_lists_of_its_own(self, lambda: top_pairs(net, sign))


class Refusals(unittest.TestCase):
    def test_no_sign(self):
        for call in CALLS:
            for thing in NO_SIGNS:
                for net in (LOOP, LOOP3, CERNY, NINE3):
                    with self.assertRaises(NoSign):
                        call(net, thing)

    def test_the_sign_c(self):
        for call in CALLS:
            for net in (LOOP, TURN, CERNY):
                with self.assertRaises(NoSign):
                    call(net, "c")
            call(NINE3, "c")

    def test_no_net_goes_first(self):
        for call in CALLS:
            for sign in ("a", "c", "d", "", None, LONG, [], True):
                refuses_no_nets(self, NoNet, lambda net: call(net, sign))


if __name__ == "__main__":
    unittest.main()
