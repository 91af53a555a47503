"""Shortest words for sets, and words by pairs (point 24)."""

import itertools
import unittest

from roadcall.errors import NoNet, NoSet
from roadcall.nets import is_word
from roadcall.pairs import call_of
from roadcall.shortest import by_pairs, shortest
from things import (CERNY, LONG, LONG_CALLS, LOOP, LOOP3, NINE, NINE3, NO_STABLE6, OTHERS, PRISM, ROUND6, TURN,
                    all_nets, call_table, deep, least_left, pairs_of, plain_call, refuses_no_nets, small_nets,
                    some_nets, table_call, walk)

NO_SETS = OTHERS + [
    (1, 0), (0, 2, 1), (3, 2, 1, 0), (0, 0), (1, 1), (0, 1, 1), (4,), (0, 4), (-1, 0), (0, LONG), (True,), (0, True),
    (False, 1), [0], [0, 1], [], (), (None,), (0, None), ("0",), ("a",), "0", "01", 0, 1, (0, "1"), ((0,),), (0, (1,)),
    (0, [1]), ([0], [1]), (0, deep(list, 10)), ((0, 1), (2, 3)), (0, 1, 2, 3, 4),
]


def all_sets(net):
    return [places for size in range(1, len(net) + 1) for places in itertools.combinations(range(len(net)), size)]


def everywhere(net):
    return tuple(range(len(net)))


class Shortest(unittest.TestCase):
    def test_against_trial(self):
        for net in small_nets() + all_nets(3, 3)[::397]:
            for places in all_sets(net):
                # Of three places no shortest word has more than four signs.
                self.assertEqual(shortest(net, places), plain_call(net, places, 5))

    def test_four_places_against_trial(self):
        for net in [CERNY] + all_nets(4, 2)[::6151]:
            for places in all_sets(net):
                self.assertEqual(shortest(net, places), plain_call(net, places, 9))

    def test_larger_nets_against_a_table(self):
        for net in some_nets(times=1) + LONG_CALLS[:6]:
            far = call_table(net, len(net))
            for places in all_sets(net):
                self.assertEqual(shortest(net, places), table_call(net, far, places))

    def test_one_place(self):
        for net in some_nets():
            for place in range(len(net)):
                self.assertEqual(shortest(net, (place,)), "")

    def test_two_places(self):
        for net in some_nets():
            for pair in pairs_of(net):
                self.assertEqual(shortest(net, pair), call_of(net, pair))

    def test_all_places(self):
        self.assertEqual(shortest(CERNY, (0, 1, 2, 3)), "abbbabbba")
        for net in LONG_CALLS:
            told = shortest(net, everywhere(net))
            self.assertEqual(len(told), (len(net) - 1) * (len(net) - 1))
            self.assertEqual(len({walk(net, place, told) for place in range(len(net))}), 1)
        self.assertEqual(shortest(((0, 1), (0, 1)), (0, 1)), "a")

    def test_the_first_of_several(self):
        self.assertEqual(shortest(((0, 0, 0),) * 3, (0, 1, 2)), "a")
        self.assertEqual(shortest(((0, 1, 1), (1, 1, 1), (2, 1, 1)), (0, 1, 2)), "b")
        # By length first: b alone goes ahead of aa.
        self.assertEqual(shortest(((1, 0), (2, 0), (2, 0)), (0, 1, 2)), "b")

    def test_never(self):
        self.assertIsNone(shortest(TURN, (0, 1)))
        self.assertIsNone(shortest(ROUND6, (0, 1, 2)))
        self.assertEqual(shortest(ROUND6, (1, 2)), "aa")
        self.assertIsNone(shortest(NO_STABLE6, (0, 1, 2, 3, 4, 5)))
        for places in all_sets(PRISM):
            self.assertEqual(shortest(PRISM, places), "" if len(places) == 1 else None)

    def test_all_can_be_where_each_two_can(self):
        for net in all_nets(3, 2) + all_nets(4, 2)[::7]:
            each_two = all(call_of(net, pair) is not None for pair in pairs_of(net))
            self.assertEqual(shortest(net, everywhere(net)) is not None, each_two)

    def test_no_set(self):
        for thing in NO_SETS:
            for net in (CERNY, PRISM, ((1, 1, 1), (1, 2, 0), (2, 3, 1), (3, 0, 3))):
                with self.assertRaises(NoSet):
                    shortest(net, thing)
        for thing in [(1,), (0, 1)] + [thing for thing in NO_SETS if thing != (0,)]:
            for net in (LOOP, LOOP3):
                with self.assertRaises(NoSet):
                    shortest(net, thing)

    def test_no_net_goes_first(self):
        for places in ((0,), (0, 1), (), (1, 0), [0], None, "0", True, LONG):
            refuses_no_nets(self, NoNet, lambda net: shortest(net, places))


class ByPairs(unittest.TestCase):
    def check(self, net):
        told = by_pairs(net)
        if least_left(net) > 1:
            self.assertIsNone(told)
            return
        many = len(net)
        self.assertTrue(is_word(net, told))
        self.assertEqual(len({walk(net, place, told) for place in range(many)}), 1)
        self.assertLessEqual(len(told), (many * many * many - many) // 2)

    def test_small_nets(self):
        for net in small_nets() + all_nets(3, 3)[::61] + all_nets(4, 2)[::83]:
            self.check(net)

    def test_larger_nets(self):
        for net in some_nets(times=30):
            self.check(net)

    def test_one_place(self):
        self.assertEqual(by_pairs(LOOP), "")
        self.assertEqual(by_pairs(LOOP3), "")

    def test_two_places(self):
        for net in all_nets(2, 2) + all_nets(2, 3):
            self.check(net)

    def test_nets_whose_shortest_word_is_long(self):
        for net in LONG_CALLS:
            self.check(net)
            self.assertGreaterEqual(len(by_pairs(net)), (len(net) - 1) * (len(net) - 1))

    def test_none(self):
        for net in (TURN, PRISM, ROUND6, NO_STABLE6, ((0, 0), (1, 1)), ((0, 0, 0), (1, 1, 1))):
            self.assertIsNone(by_pairs(net))

    def test_called_together_though_the_net_does_not_hang_together(self):
        for net in (((0, 0), (0, 0)), ((0, 0), (0, 1), (1, 1)), NINE, NINE3):
            self.assertIsNotNone(by_pairs(net))
            self.check(net)

    def test_no_net(self):
        refuses_no_nets(self, NoNet, by_pairs)


if __name__ == "__main__":
    unittest.main()
