"""How words that leave as few places as can be part the places (point 28)."""

import unittest

from roadcall.errors import NoNet, TooMany
from roadcall.least import least_images, least_rank
from roadcall.partings import least_partings
from roadcall.weights import weights
from things import (CERNY, LONG_CALLS, LOOP, LOOP3, NINE, NO_STABLE6, PRISM, ROUND6, TURN, all_nets, all_on_rings,
                    beat_nets, is_whole_net, plain_maps, refuses_no_nets, small_nets, some_nets,
                    tells_lists_of_its_own, whole_nets)

# Nets that hang together and have several least partings, by how many.
WHOLE = {
    2: [((1, 0), (2, 2), (3, 2), (0, 0)), ((4, 0), (4, 1), (6, 2), (6, 5), (2, 1), (6, 5), (0, 3)),
        ((1, 1), (2, 1), (3, 5), (4, 5), (5, 3), (0, 3))],
    4: [((1, 3), (2, 1), (3, 3), (4, 0), (5, 4), (0, 0)),
        ((8, 3), (8, 5), (3, 0), (2, 6), (1, 6), (2, 7), (4, 2), (4, 2), (6, 0))],
    8: [((1, 7), (2, 7), (3, 3), (4, 5), (5, 5), (6, 3), (7, 1), (0, 1))],
}
NEAR = {
    199: [((2, 6), (8, 5), (6, 0), (5, 1), (4, 6), (3, 4), (0, 2), (6, 3), (7, 7))],
    200: [((0, 2), (3, 1), (5, 4), (1, 3), (2, 8), (7, 6), (6, 6), (4, 1), (8, 5)),
          ((7, 2), (2, 7), (0, 1), (8, 2), (3, 3), (5, 2), (4, 6), (1, 0), (6, 4)),
          ((4, 7), (8, 6), (4, 1), (5, 3), (7, 4), (2, 5), (1, 8), (0, 0), (4, 2))],
}
BEYOND = {
    201: [((6, 3), (1, 5), (2, 1), (0, 6), (5, 4), (4, 6), (3, 0), (8, 4), (1, 2)),
          ((7, 2), (3, 1), (6, 2), (1, 2), (2, 6), (0, 7), (4, 4), (8, 7), (5, 5))],
    202: [((1, 3), (3, 5), (7, 5), (6, 2), (8, 4), (5, 2), (0, 0), (2, 7), (4, 6))],
}
FAR_BEYOND = [
    ((6, 6), (5, 5), (8, 0), (1, 7), (3, 8), (3, 1), (4, 4), (7, 3), (0, 2)),
    ((3, 1, 2), (3, 2, 1), (6, 8, 3), (6, 0, 0), (7, 5, 6), (5, 4, 4), (4, 6, 7), (6, 7, 5), (5, 3, 8)),
]


def third_way(net):
    """The net with the second way once more as a third one: its words have the same maps."""
    return tuple(row + row[1:] for row in net)


def parted(goals):
    """The parting of a map: a tuple of sets by their least places."""
    ends = sorted(set(goals), key=goals.index)
    return tuple(tuple(place for place in range(len(goals)) if goals[place] == end) for end in ends)


def plain_partings(net):
    """The partings of all maps with the fewest goals, sorted; None where there are too many maps to see them all."""
    found = plain_maps(net)
    if len(found) > 20000:
        return None
    rank = min(len(set(goals)) for goals in found)
    return sorted({parted(goals) for goals in found if len(set(goals)) == rank})


def several():
    return [net for some in WHOLE.values() for net in some]


class LeastPartings(unittest.TestCase):
    def test_against_all_maps(self):
        nets = small_nets() + all_nets(3, 3)[::61] + all_nets(4, 2)[::83] + some_nets(times=3) + several()
        for net in nets + beat_nets(times=1) + all_on_rings(times=1) + LONG_CALLS[:4]:
            want = plain_partings(net)
            if want is not None and len(want) <= 200:
                told = least_partings(net)
                self.assertIsInstance(told, list)
                self.assertEqual(told, want, net)

    def test_one(self):
        self.assertEqual(least_partings(LOOP), [((0,),)])
        self.assertEqual(least_partings(LOOP3), [((0,),)])
        self.assertEqual(least_partings(TURN), [((0,), (1,))])
        self.assertEqual(least_partings(CERNY), [((0, 1, 2, 3),)])
        self.assertEqual(least_partings(NINE), [(tuple(range(9)),)])
        self.assertEqual(least_partings(PRISM), [((0,), (1,), (2,), (3,))])
        self.assertEqual(least_partings(((1, 2), (0, 0), (0, 0))), [((0,), (1, 2))])
        # By their least places, though the first part has the greatest one, too.
        self.assertEqual(least_partings(((1, 1), (0, 2), (1, 1))), [((0, 2), (1,))])
        self.assertEqual(least_partings(ROUND6), [((0,), (1, 2), (3, 4), (5,))])

    def test_several(self):
        self.assertEqual(least_partings(((0, 0), (1, 1), (0, 1))), [((0,), (1, 2)), ((0, 2), (1,))])
        self.assertEqual(least_partings(((1, 0), (2, 2), (3, 2), (0, 0))), [((0, 1), (2, 3)), ((0, 3), (1, 2))])
        for many, nets in WHOLE.items():
            for net in nets:
                self.assertTrue(is_whole_net(net))
                self.assertEqual(len(least_partings(net)), many)

    def test_each_a_tuple_of_sets_by_their_least_places(self):
        for net in some_nets(times=4) + several() + NEAR[200][:1]:
            told = least_partings(net)
            self.assertEqual(told, sorted(set(told)))
            for parting in told:
                self.assertIsInstance(parting, tuple)
                self.assertEqual(list(parting), sorted(parting, key=min))
                self.assertEqual(sorted(place for part in parting for place in part), list(range(len(net))))
                for part in parting:
                    self.assertIsInstance(part, tuple)
                    self.assertEqual(part, tuple(sorted(part)))
                self.assertEqual(len(parting), least_rank(net))

    def test_one_place_of_each_least_image_in_each_part(self):
        for net in some_nets(times=6) + several() + NEAR[199] + NEAR[200]:
            for places in least_images(net):
                for parting in least_partings(net):
                    for part in parting:
                        self.assertEqual(len(set(part) & set(places)), 1)

    def test_where_the_net_hangs_together_all_parts_weigh_alike(self):
        for net in whole_nets(times=10) + beat_nets(times=2) + all_on_rings() + several() + [NO_STABLE6]:
            weight = weights(net)
            found = {sum(weight[place] for place in part) for parting in least_partings(net) for part in parting}
            self.assertEqual(found, {sum(weight) // least_rank(net)}, net)
            self.assertEqual(sum(weight) % least_rank(net), 0)

    def test_just_two_hundred(self):
        for many, nets in NEAR.items():
            for net in nets + [third_way(net) for net in nets]:
                told = least_partings(net)
                self.assertEqual(len(told), many)
                self.assertEqual(told, plain_partings(net))

    def test_too_many(self):
        for many, nets in BEYOND.items():
            for net in nets + [third_way(net) for net in nets]:
                self.assertEqual(len(plain_partings(net)), many)
                with self.assertRaises(TooMany):
                    least_partings(net)
        for net in FAR_BEYOND:
            with self.assertRaises(TooMany):
                least_partings(net)

    def test_lists_are_the_askers_own(self):
        for net in (LOOP, TURN, CERNY, WHOLE[8][0], NEAR[200][0]):
            tells_lists_of_its_own(self, lambda: least_partings(net))

    def test_no_net(self):
        refuses_no_nets(self, NoNet, least_partings)


if __name__ == "__main__":
    unittest.main()
