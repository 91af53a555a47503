"""Pairs that can be called together (points 14 and 15)."""

import unittest

from roadcall.errors import NoNet, NoPair
from roadcall.pairs import call_of, led_pairs, never_called
from things import (CERNY, LONG, LONG_CALLS, LOOP, LOOP3, NINE, NINE3, NO_STABLE6, OTHERS, PRISM, TURN, all_nets,
                    call_table, deep, pairs_of, pairs_reached, plain_call, refuses_no_nets, small_nets, some_nets,
                    table_call, tells_lists_of_its_own, walk)

NO_PAIRS = OTHERS + [
    (1, 0), (3, 2), (0, 0), (1, 1), (3, 3), (0, 4), (4, 5), (-1, 0), (-1, 3), (0, LONG), (-LONG, 0), [0, 1], [2, 3],
    ([0], [1]), (False, True), (0, True), (False, 1), (True, 2), (0,), (3,), (0, 1, 2), (0, 1, 1), (0, 0, 1), "01",
    ("0", "1"), ("a", "b"), "ab", (0, "1"), (0, None), (None, 1), (0, (1,)), ((0, 1),), ((0, 1), (2, 3)),
    (0, deep(list, 10)), 0, 1, (0, 1, 2, 3), (),
]
# The sign a leads round, the others never bring two places together.
TURNS3 = ((1, 2, 0), (2, 0, 1), (0, 1, 2))


class CallOf(unittest.TestCase):
    def test_against_trial(self):
        # Of so few places no pair needs more signs than there are pairs.
        for net in small_nets() + all_nets(3, 3)[::97] + all_nets(4, 2)[::997]:
            for pair in pairs_of(net):
                self.assertEqual(call_of(net, pair), plain_call(net, pair, len(pairs_of(net))))

    def test_larger_nets_against_a_table(self):
        for net in some_nets(times=5) + LONG_CALLS:
            far = call_table(net, 2)
            for pair in pairs_of(net):
                told = call_of(net, pair)
                self.assertEqual(told, table_call(net, far, pair))
                if told is not None:
                    self.assertEqual(walk(net, pair[0], told), walk(net, pair[1], told))

    def test_by_hand(self):
        self.assertEqual(call_of(CERNY, (0, 1)), "a")
        self.assertEqual(call_of(CERNY, (0, 3)), "ba")
        self.assertEqual(call_of(CERNY, (0, 2)), "abbba")
        self.assertEqual(call_of(CERNY, (1, 2)), "bbba")

    def test_the_first_of_several(self):
        self.assertEqual(call_of(((0, 0), (0, 0)), (0, 1)), "a")
        self.assertEqual(call_of(((0, 1, 1), (1, 1, 1)), (0, 1)), "b")
        self.assertEqual(call_of(((0, 0, 1), (1, 1, 1)), (0, 1)), "c")
        # No single sign does: of two signs ab and bb do, in the second net ba and bb.
        net = ((2, 2), (3, 3), (0, 1), (1, 1), (4, 4))
        self.assertEqual(call_of(net, (0, 1)), "ab")
        net = ((1, 2), (0, 3), (4, 4), (4, 4), (4, 4))
        self.assertEqual(call_of(net, (0, 1)), "ba")

    def test_shorter_goes_ahead_of_what_is_first_as_a_text(self):
        # a leads the pair on to be called together by a again, b does it at once.
        net = ((2, 0), (3, 0), (0, 2), (0, 3))
        self.assertEqual(call_of(net, (0, 1)), "b")

    def test_long_calls(self):
        for net in LONG_CALLS[1:]:
            lengths = [len(call_of(net, pair)) for pair in pairs_of(net)]
            self.assertGreaterEqual(max(lengths), len(net))

    def test_never(self):
        self.assertIsNone(call_of(TURN, (0, 1)))
        self.assertIsNone(call_of(((1, 0), (0, 1)), (0, 1)))
        self.assertIsNone(call_of(((0, 0), (1, 1)), (0, 1)))
        for net in (TURNS3, PRISM):
            for pair in pairs_of(net):
                self.assertIsNone(call_of(net, pair))
        self.assertIsNone(call_of(NO_STABLE6, (0, 3)))

    def test_no_pair(self):
        for thing in NO_PAIRS:
            for call in (call_of, led_pairs):
                with self.assertRaises(NoPair):
                    call(CERNY, thing)
                with self.assertRaises(NoPair):
                    call(((1, 1, 1), (1, 2, 0), (2, 3, 1), (3, 0, 3)), thing)

    def test_one_place_has_no_pair(self):
        for net in (LOOP, LOOP3):
            for thing in NO_PAIRS + [(0, 1), (0, 2)]:
                for call in (call_of, led_pairs):
                    with self.assertRaises(NoPair):
                        call(net, thing)

    def test_a_place_beyond_the_net(self):
        for net in (TURN, CERNY, NINE, NINE3):
            many = len(net)
            for thing in ((0, many), (many - 1, many), (many, many + 1), (-1, 0)):
                for call in (call_of, led_pairs):
                    with self.assertRaises(NoPair):
                        call(net, thing)

    def test_no_net_goes_first(self):
        for pair in ((0, 1), (1, 0), (0, 0), [0, 1], None, "01", (True, 2), LONG, ()):
            for call in (call_of, led_pairs):
                refuses_no_nets(self, NoNet, lambda net: call(net, pair))


class LedPairs(unittest.TestCase):
    def test_against_the_pairs_reached(self):
        for net in small_nets() + some_nets(times=5) + LONG_CALLS:
            for pair in pairs_of(net):
                told = led_pairs(net, pair)
                self.assertIsInstance(told, list)
                self.assertIn(pair, told)
                self.assertEqual(told, sorted(pairs_reached(net, pair)))

    def test_by_hand(self):
        self.assertEqual(led_pairs(TURN, (0, 1)), [(0, 1)])
        self.assertEqual(led_pairs(((0, 1), (0, 1)), (0, 1)), [(0, 1)])
        self.assertEqual(led_pairs(CERNY, (0, 1)), [(0, 1), (0, 2), (0, 3), (1, 2), (1, 3), (2, 3)])
        self.assertEqual(led_pairs(((2, 2), (3, 2), (2, 2), (3, 3)), (0, 1)), [(0, 1), (2, 3)])
        self.assertEqual(led_pairs(((2, 2), (3, 2), (2, 2), (3, 3)), (2, 3)), [(2, 3)])

    def test_two_that_come_to_one_place_are_no_pair_there(self):
        net = ((0, 1, 1), (0, 1, 0))
        self.assertEqual(led_pairs(net, (0, 1)), [(0, 1)])
        net = ((1, 1, 1), (1, 1, 1), (2, 2, 2))
        self.assertEqual(led_pairs(net, (0, 1)), [(0, 1)])
        self.assertEqual(led_pairs(net, (0, 2)), [(0, 2), (1, 2)])

    def test_lists_are_the_askers_own(self):
        for net in (TURN, CERNY, NINE3):
            tells_lists_of_its_own(self, lambda: led_pairs(net, (0, 1)))


class NeverCalled(unittest.TestCase):
    def test_those_without_a_call(self):
        for net in small_nets() + some_nets(times=5) + LONG_CALLS:
            far = call_table(net, 2)
            told = never_called(net)
            self.assertIsInstance(told, list)
            self.assertEqual(told, [pair for pair in pairs_of(net) if call_of(net, pair) is None])
            self.assertEqual(told, [pair for pair in pairs_of(net) if frozenset(pair) not in far])

    def test_signs_lead_them_to_such(self):
        for net in small_nets() + some_nets():
            told = never_called(net)
            for one, other in told:
                for goal, far in zip(net[one], net[other]):
                    self.assertIn((min(goal, far), max(goal, far)), told)

    def test_called_or_shown_not_to_be(self):
        # Point 3: a shortest word, or the pairs to which they are led, none of which comes together.
        for net in some_nets(seed=2, times=4):
            never = never_called(net)
            for pair in pairs_of(net):
                told = led_pairs(net, pair)
                together = any(net[one][at] == net[other][at] for one, other in told for at in range(len(net[0])))
                self.assertEqual(together, call_of(net, pair) is not None)
                self.assertEqual(not together, pair in never)

    def test_one_place(self):
        self.assertEqual(never_called(LOOP), [])
        self.assertEqual(never_called(LOOP3), [])

    def test_by_hand(self):
        self.assertEqual(never_called(TURN), [(0, 1)])
        self.assertEqual(never_called(CERNY), [])
        self.assertEqual(never_called(PRISM), pairs_of(PRISM))
        self.assertEqual(never_called(((1, 2), (0, 0), (0, 0))), [(0, 1), (0, 2)])

    def test_lists_are_the_askers_own(self):
        for net in (LOOP, TURN, PRISM):
            tells_lists_of_its_own(self, lambda: never_called(net))

    def test_no_net(self):
        refuses_no_nets(self, NoNet, never_called)


if __name__ == "__main__":
    unittest.main()
