"""The beat of a net that hangs together (point 7)."""

import math
import unittest

from roadcall.beats import beat
from roadcall.errors import NoNet, NoWhole
from things import (CERNY, LOOP, LOOP3, NINE, NINE3, ROUND6, TURN, broken_nets, is_whole_net,
                    refuses_no_nets, small_nets, some_nets, whole_nets)


def beat_by_lengths(net):
    """The greatest number that divides all lengths up to 30 of words that lead a place back."""
    many = len(net)
    sizes = 0
    for start in range(many):
        here = {start}
        for length in range(1, 31):
            here = {goal for place in here for goal in net[place]}
            if start in here:
                sizes = math.gcd(sizes, length)
    return sizes


def blown_up(size, many, width):
    """A net of a beat: the place p has the number p % size, and roads lead to many of the next."""
    rows = []
    for place in range(many):
        goals = [goal for goal in range(many) if goal % size == (place + 1) % size]
        rows.append(tuple(goals[(place + k) % len(goals)] for k in range(width)))
    return tuple(rows)


class Beat(unittest.TestCase):
    def check(self, net):
        told = beat(net)
        self.assertIsInstance(told, tuple)
        size, numbers = told
        self.assertIsInstance(numbers, tuple)
        self.assertEqual(size, beat_by_lengths(net), net)
        self.assertEqual(len(numbers), len(net))
        self.assertEqual(numbers[0], 0)
        for place, row in enumerate(net):
            self.assertTrue(0 <= numbers[place] < size)
            for goal in row:
                self.assertEqual(numbers[goal], (numbers[place] + 1) % size)

    def test_nets_that_hang_together(self):
        for net in whole_nets() + [net for net in small_nets() if is_whole_net(net)]:
            self.check(net)

    def test_of_one(self):
        self.assertEqual(beat(LOOP), (1, (0,)))
        self.assertEqual(beat(LOOP3), (1, (0,)))
        self.assertEqual(beat(CERNY), (1, (0, 0, 0, 0)))
        self.assertEqual(beat(NINE), (1, (0,) * 9))
        self.assertEqual(beat(((1, 1), (2, 0), (0, 0))), (1, (0, 0, 0)))

    def test_between(self):
        self.assertEqual(beat(ROUND6), (4, (0, 1, 1, 2, 2, 3)))
        self.assertEqual(beat(((2, 3), (3, 2), (1, 0), (0, 1))), (2, (0, 0, 1, 1)))
        for size in range(1, 10):
            for many in range(size, 10):
                for width in (2, 3):
                    net = blown_up(size, many, width)
                    if is_whole_net(net):
                        self.check(net)
                        self.assertEqual(beat(net)[0] % size, 0)

    def test_as_many_as_places(self):
        self.assertEqual(beat(TURN), (2, (0, 1)))
        for many in range(1, 10):
            for width in (2, 3):
                net = tuple(((place + 1) % many,) * width for place in range(many))
                self.assertEqual(beat(net), (many, tuple(range(many))))
                back = tuple(((place - 1) % many,) * width for place in range(many))
                self.assertEqual(beat(back), (many, tuple(-place % many for place in range(many))))

    def test_lengths_that_only_a_far_road_breaks(self):
        # Rings of nine and of six, joined: the beat is three.
        net = tuple(((p + 1) % 9, (p + 1) % 9) for p in range(8)) + ((0, 3),)
        self.assertEqual(beat(net), (3, (0, 1, 2) * 3))
        # Rings of nine and of eight: the beat is one.
        net = tuple(((p + 1) % 9, (p + 1) % 9) for p in range(8)) + ((0, 1),)
        self.assertEqual(beat(net), (1, (0,) * 9))

    def test_many_beats_are_tested(self):
        sizes = {beat(net)[0] for net in whole_nets()}
        self.assertIn(1, sizes)
        sizes.update(beat(net)[0] for net in small_nets() if is_whole_net(net))
        self.assertTrue({1, 2, 3} <= sizes, sizes)

    def test_no_whole(self):
        for net in broken_nets() + [net for net in small_nets() if not is_whole_net(net)]:
            with self.assertRaises(NoWhole):
                beat(net)

    def test_three_ways(self):
        self.check(NINE3)
        self.assertTrue(any(len(net[0]) == 3 for net in some_nets() if is_whole_net(net)))

    def test_no_net(self):
        refuses_no_nets(self, NoNet, beat)


if __name__ == "__main__":
    unittest.main()
