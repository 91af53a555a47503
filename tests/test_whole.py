"""Whole numbers (point 2)."""

import math
import unittest

from roadcall.whole import common_divisor, is_whole, is_whole_below
from things import LONG


class Whole(unittest.TestCase):
    def test_ints_are_whole(self):
        for thing in (0, 1, -1, 9, LONG, -LONG):
            self.assertIs(is_whole(thing), True)

    def test_other_things_are_not(self):
        for thing in (True, False, None, "", "0", [], [0], (), (0,)):
            self.assertIs(is_whole(thing), False)

    def test_below(self):
        for many in range(4):
            for thing in range(-2, 6):
                self.assertIs(is_whole_below(thing, many), thing in range(many))
        for thing in (True, False, None, "", "0", [], [0], (), (0,), LONG, -LONG):
            self.assertIs(is_whole_below(thing, 9), False)

    def test_common_divisor(self):
        for one in range(-20, 21):
            for other in range(-20, 21):
                self.assertEqual(common_divisor(one, other), math.gcd(one, other))
        self.assertEqual(common_divisor(LONG, 9), 9)


if __name__ == "__main__":
    unittest.main()
