"""Papers that are let by (point 30)."""

import unittest

from roadcall.beats import beat
from roadcall.errors import NoNet, NoPair, NoWhole
from roadcall.papers import look
from roadcall.tellers import paper_of_beat, paper_of_call, paper_of_pair
from things import (CERNY, LONG, LONG_CALLS, LOOP, LOOP3, NINE, NINE3, NO_STABLE6, NO_STABLE9, OTHERS, PRISM, ROUND6,
                    TURN, all_nets, all_on_rings, beat_nets, beat_of, broken_nets, call_table, is_whole_net, pairs_of,
                    plain_stable, refuses_no_nets, small_nets, some_nets, whole_nets)

NO_PAIRS = OTHERS + [
    (1, 0), (0, 0), (0,), (0, 1, 2), (0, 9), (9, 10), (-1, 0), (0, LONG), (True, 2), (False, True), (0, True), [0, 1],
    "01", "0 1", 0, None, ("0", "1"), (0, "1"), (None, 1), ((0, 1),), ((0,), (1,)), (0, [1]),
]


def nets_that_hang_together():
    nets = [net for net in small_nets() + all_nets(4, 2)[::499] if is_whole_net(net)]
    return nets + whole_nets(times=6) + beat_nets(times=2) + all_on_rings() + LONG_CALLS + [
        PRISM, NO_STABLE6, NO_STABLE9, CERNY, NINE, NINE3, ROUND6]


class OfCall(unittest.TestCase):
    def test_let_by_with_as_many_left_as_the_beat_says(self):
        for net in nets_that_hang_together():
            paper = paper_of_call(net)
            self.assertIsInstance(paper, tuple)
            self.assertEqual(paper[0], "call")
            self.assertIsNone(look(net, paper))
            self.assertEqual(paper[3], beat_of(net))
            self.assertIs(type(paper[3]), int)

    def test_one_place(self):
        for net in (LOOP, LOOP3):
            paper = paper_of_call(net)
            self.assertEqual((paper[0], paper[1], paper[3]), ("call", net, 1))

    def test_no_whole(self):
        for net in broken_nets() + [((0, 0), (1, 1)), ((0, 0), (0, 1))]:
            with self.assertRaises(NoWhole):
                paper_of_call(net)

    def test_no_net(self):
        refuses_no_nets(self, NoNet, paper_of_call)


class OfBeat(unittest.TestCase):
    def test_let_by(self):
        for net in nets_that_hang_together():
            paper = paper_of_beat(net)
            self.assertIsInstance(paper, tuple)
            self.assertIsNone(look(net, paper))
            self.assertEqual(paper, ("beat",) + beat(net))
            self.assertEqual(paper[1], beat_of(net))

    def test_by_hand(self):
        self.assertEqual(paper_of_beat(LOOP), ("beat", 1, (0,)))
        self.assertEqual(paper_of_beat(TURN), ("beat", 2, (0, 1)))
        self.assertEqual(paper_of_beat(ROUND6), ("beat", 4, (0, 1, 1, 2, 2, 3)))

    def test_no_whole(self):
        for net in broken_nets() + [((0, 0), (1, 1)), ((0, 0), (0, 1))]:
            with self.assertRaises(NoWhole):
                paper_of_beat(net)

    def test_no_net(self):
        refuses_no_nets(self, NoNet, paper_of_beat)


class OfPair(unittest.TestCase):
    def test_the_right_paper_for_each_pair(self):
        kinds = set()
        nets = small_nets() + some_nets(times=4) + all_on_rings(times=1) + [PRISM, ROUND6, NO_STABLE6, CERNY]
        for net in nets + [((0, 2, 2), (0, 3, 3), (2, 2, 2), (3, 3, 3))]:
            far, stable = call_table(net, 2), plain_stable(net)
            for pair in pairs_of(net):
                paper = paper_of_pair(net, pair)
                if frozenset(pair) not in far:
                    self.assertEqual((paper[0], len(paper)), ("never", 2))
                elif pair in stable:
                    self.assertEqual((paper[0], len(paper)), ("stable", 3))
                else:
                    self.assertIsNone(paper)
                    kinds.add((None, len(net[0])))
                    continue
                self.assertIsInstance(paper, tuple)
                self.assertIn(pair, paper[1])
                self.assertIsNone(look(net, paper))
                kinds.add((paper[0], len(net[0])))
        self.assertEqual(len(kinds), 6)

    def test_by_hand(self):
        self.assertEqual(paper_of_pair(TURN, (0, 1)), ("never", ((0, 1),)))
        self.assertEqual(paper_of_pair(((0, 1), (0, 1)), (0, 1))[:2], ("stable", ((0, 1),)))
        # 0 and 1 are called together by a, but b leads them to 2 and 3, which never are.
        net = ((0, 2), (0, 3), (2, 2), (3, 3))
        self.assertIsNone(paper_of_pair(net, (0, 1)))
        self.assertEqual(paper_of_pair(net, (2, 3)), ("never", ((2, 3),)))
        self.assertEqual(paper_of_pair(net, (0, 2))[:2], ("stable", ((0, 2),)))

    def test_no_pair(self):
        for net in (CERNY, PRISM, ROUND6, ((1, 2, 0), (2, 0, 1), (0, 1, 2))):
            for thing in NO_PAIRS + [(0, len(net)), (len(net) - 1, len(net))]:
                with self.assertRaises(NoPair):
                    paper_of_pair(net, thing)
        for net in (LOOP, LOOP3):
            for thing in NO_PAIRS + [(0, 1)]:
                with self.assertRaises(NoPair):
                    paper_of_pair(net, thing)

    def test_no_net_goes_first(self):
        for pair in ((0, 1), (1, 0), (), None, "01", [0, 1], True, LONG):
            refuses_no_nets(self, NoNet, lambda net: paper_of_pair(net, pair))


if __name__ == "__main__":
    unittest.main()
