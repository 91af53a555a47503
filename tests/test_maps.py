"""All maps that words have (point 12)."""

import itertools
import unittest

from roadcall.errors import NoNet, TooMany
from roadcall.maps import all_maps
from roadcall.words import map_of
from things import (CERNY, LOOP, LOOP3, NINE3, TURN, all_nets, plain_maps, refuses_no_nets, small_nets, some_nets,
                    tells_lists_of_its_own, walk)

# Nets by how many maps their words have.
NEAR = {
    497: [((2, 4), (3, 3), (5, 5), (1, 2), (5, 4), (0, 0))],
    499: [((1, 2), (4, 4), (0, 3), (2, 0), (4, 0), (2, 1)), ((4, 2, 1), (0, 4, 4), (1, 1, 2), (2, 4, 1), (0, 2, 3))],
    500: [((1, 5), (3, 4), (5, 0), (3, 2), (4, 0), (0, 0)), ((0, 2, 1), (4, 3, 1), (2, 0, 0), (0, 1, 4), (1, 1, 1))],
}
BEYOND = {
    501: [((5, 4), (4, 3), (3, 3), (1, 4), (1, 5), (5, 2)), ((4, 2, 0), (3, 2, 2), (1, 3, 0), (0, 1, 3), (0, 0, 0))],
    502: [((0, 4), (5, 0), (1, 4), (3, 2), (0, 1), (1, 3))],
    # All orders of six places.
    720: [((1, 1), (2, 0), (3, 2), (4, 3), (5, 4), (0, 5))],
}
HUGE = [NINE3, tuple(((place + 1) % 9, (1, 0, 2, 3, 4, 5, 6, 7, 8)[place], max(place, 1)) for place in range(9))]


def trial(net):
    """The first word of each map, by trial of all words of a length, till a length brings no new map."""
    found, length, grown = {}, 0, True
    while grown:
        grown = False
        for signs in itertools.product("abc"[:len(net[0])], repeat=length):
            goals = tuple(walk(net, place, signs) for place in range(len(net)))
            if goals not in found:
                found[goals] = "".join(signs)
                grown = True
        length += 1
    return [(word, goals) for goals, word in found.items()]


def closure(net):
    """The set of all maps, without words; broken off far beyond five hundred."""
    return plain_maps(net, 2000)


class Maps(unittest.TestCase):
    def check_words(self, net, told):
        """Each word has its map, they are in order, and none can be left out or made shorter by one sign."""
        self.assertIsInstance(told, list)
        self.assertEqual(told[0], ("", tuple(range(len(net)))))
        self.assertEqual(told, sorted(told, key=lambda row: (len(row[0]), row[0])))
        first = {goals: (len(word), word) for word, goals in told}
        for row in told:
            self.assertIsInstance(row, tuple)
            word, goals = row
            self.assertEqual(map_of(net, word), goals)
            for at, sign in enumerate("abc"[:len(net[0])]):
                longer = word + sign
                self.assertLessEqual(first[tuple(net[goal][at] for goal in goals)], (len(longer), longer))

    def test_one_place(self):
        self.assertEqual(all_maps(LOOP), [("", (0,))])
        self.assertEqual(all_maps(LOOP3), [("", (0,))])

    def test_by_hand(self):
        self.assertEqual(all_maps(TURN), [("", (0, 1)), ("a", (1, 0))])
        self.assertEqual(all_maps(((1, 0), (0, 1))), [("", (0, 1)), ("a", (1, 0))])
        self.assertEqual(all_maps(((0, 1), (0, 1))), [("", (0, 1)), ("a", (0, 0)), ("b", (1, 1))])
        self.assertEqual(all_maps(((1, 1), (0, 1))),
                         [("", (0, 1)), ("a", (1, 0)), ("b", (1, 1)), ("ba", (0, 0))])
        self.assertEqual(all_maps(((1, 0, 0), (1, 0, 1))), [("", (0, 1)), ("a", (1, 1)), ("b", (0, 0))])

    def test_against_trial(self):
        for net in small_nets():
            self.assertEqual(all_maps(net), trial(net))
        for net in all_nets(3, 3)[::1777] + all_nets(4, 2)[::4099]:
            if len(closure(net)) < 60:
                self.assertEqual(all_maps(net), trial(net))

    def test_some_nets(self):
        for net in some_nets(times=4):
            many = len(closure(net))
            if many > 500:
                with self.assertRaises(TooMany):
                    all_maps(net)
            else:
                told = all_maps(net)
                self.assertEqual({goals for _, goals in told}, closure(net))
                self.assertEqual(len(told), many)
                self.check_words(net, told)

    def test_just_five_hundred(self):
        for many, nets in NEAR.items():
            for net in nets:
                told = all_maps(net)
                self.assertEqual(len(told), many)
                self.assertEqual({goals for _, goals in told}, closure(net))
                self.check_words(net, told)

    def test_too_many(self):
        for many, nets in BEYOND.items():
            for net in nets:
                self.assertEqual(len(closure(net)), many)
                with self.assertRaises(TooMany):
                    all_maps(net)
        for net in HUGE:
            with self.assertRaises(TooMany):
                all_maps(net)

    def test_lists_are_the_askers_own(self):
        for net in (LOOP, TURN, CERNY, NEAR[500][0]):
            tells_lists_of_its_own(self, lambda: all_maps(net))

    def test_no_net(self):
        refuses_no_nets(self, NoNet, all_maps)


if __name__ == "__main__":
    unittest.main()
