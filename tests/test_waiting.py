"""How long it takes by chance till everybody stands at one place (point 26)."""

import math
import unittest
from fractions import Fraction

from roadcall.callers import counted, sets_met
from roadcall.errors import NoCall, NoNet, TooMany
from roadcall.waiting import mean_wait
from things import (CERNY, LONG_CALLS, LOOP, LOOP3, NINE3, NO_STABLE6, NO_STABLE9, PRISM, ROUND6, TURN, all_nets,
                    least_left, plain_images, refuses_no_nets, sign_images, small_nets, some_nets)

# Nets that can be called together, by how many sets are met.
MET = {
    23: [((3, 4), (2, 4), (0, 3), (1, 0), (3, 1)), ((4, 1, 3), (1, 0, 0), (4, 2, 4), (2, 4, 1), (0, 2, 0)),
         ((6, 5), (7, 8), (1, 8), (0, 5), (1, 7), (2, 3), (1, 3), (5, 8), (4, 7))],
    24: [((1, 3), (2, 2), (4, 0), (3, 1), (1, 0)), ((3, 0, 0), (1, 1, 4), (2, 1, 1), (0, 2, 2), (4, 1, 0)),
         ((4, 2, 4), (1, 1, 3), (3, 4, 4), (3, 2, 0), (0, 2, 2)), ((2, 3), (5, 1), (0, 2), (4, 1), (5, 1), (0, 5)),
         ((6, 4), (1, 4), (5, 3), (0, 4), (5, 2), (6, 6), (1, 1)),
         ((4, 7, 6), (5, 6, 7), (1, 7, 4), (5, 7, 0), (4, 6, 1), (2, 6, 3), (5, 3, 0), (5, 7, 7)),
         ((4, 2), (1, 1), (2, 1), (0, 1), (8, 6), (7, 8), (7, 4), (2, 0), (1, 4)),
         ((3, 3, 5), (3, 5, 5), (8, 3, 4), (6, 5, 8), (3, 8, 4), (5, 8, 8), (6, 5, 4), (2, 3, 8), (3, 0, 4))],
    25: [((3, 3, 3), (1, 1, 4), (0, 3, 3), (0, 4, 2), (2, 0, 4)), ((1, 1, 0), (4, 0, 1), (1, 2, 1), (0, 3, 4), (3, 0, 2)),
         ((5, 3), (4, 5), (4, 2), (2, 0), (2, 1), (0, 2)), ((2, 4), (1, 3), (5, 3), (4, 3), (2, 6), (2, 1), (0, 6)),
         ((0, 7), (1, 2), (8, 4), (3, 0), (8, 8), (6, 0), (1, 5), (2, 4), (8, 7))],
    26: [((3, 0, 3), (4, 4, 2), (4, 3, 4), (4, 3, 1), (2, 0, 0)), ((5, 2), (2, 0), (1, 3), (4, 5), (2, 4), (2, 2))],
}
# Nets that cannot, in which more than 24 sets are met.
MANY_MET_NO_CALL = [
    ((0, 6), (2, 2), (3, 6), (5, 0), (4, 4), (5, 1), (5, 1)),
    ((1, 5), (2, 4), (3, 3), (2, 7), (5, 5), (0, 4), (0, 4), (6, 5)),
    ((0, 3, 0), (5, 6, 6), (2, 2, 2), (1, 1, 3), (4, 3, 2), (0, 3, 5), (6, 6, 5)),
    ((7, 6, 3), (7, 8, 6), (4, 4, 4), (8, 0, 4), (2, 2, 2), (2, 2, 0), (3, 0, 6), (3, 3, 1), (0, 3, 2)),
]


def plain_wait(net):
    """The mean by fractions: each set's wait is one sign and the mean of the waits behind it."""
    sets = sorted([places for places in plain_images(net) if len(places) > 1], key=sorted)
    at = {places: number for number, places in enumerate(sets)}
    rows = []
    for places in sets:
        row = [Fraction(0)] * len(sets) + [Fraction(1)]
        row[at[places]] += 1
        for goal in sign_images(net, places):
            if goal in at:
                row[at[goal]] -= Fraction(1, len(net[0]))
        rows.append(row)
    for turn in range(len(sets)):
        best = next(number for number in range(turn, len(sets)) if rows[number][turn])
        rows[turn], rows[best] = rows[best], rows[turn]
        rows[turn] = [value / rows[turn][turn] for value in rows[turn]]
        for number, row in enumerate(rows):
            if number != turn and row[turn]:
                rows[number] = [value - row[turn] * other for value, other in zip(row, rows[turn])]
    whole = frozenset(range(len(net)))
    return rows[at[whole]][-1] if whole in at else Fraction(0)


class MeanWait(unittest.TestCase):
    def check(self, net):
        told = mean_wait(net)
        self.assertIsInstance(told, tuple)
        top, bottom = told
        self.assertEqual((type(top), type(bottom)), (int, int))
        self.assertGreater(bottom, 0)
        self.assertEqual(math.gcd(top, bottom), 1)
        self.assertEqual(Fraction(top, bottom), plain_wait(net), net)

    def check_any(self, net):
        """As told, or refused as it has to be; what became of it."""
        if least_left(net) > 1:
            with self.assertRaises(NoCall):
                mean_wait(net)
            return "no call"
        if len(plain_images(net)) > 24:
            with self.assertRaises(TooMany):
                mean_wait(net)
            return "too many"
        self.check(net)
        return "told"

    def test_small_nets(self):
        for net in small_nets() + all_nets(3, 3)[::199] + all_nets(4, 2)[::307]:
            self.check_any(net)

    def test_nets_of_one_to_nine_places(self):
        met = {(len(net), len(net[0]), self.check_any(net)) for net in some_nets(times=30)}
        for many in range(2, 9):
            for width in (2, 3):
                self.assertIn((many, width, "told"), met)
        for want in ((6, 2, "too many"), (9, 3, "too many"), (4, 2, "no call"), (9, 2, "no call")):
            self.assertIn(want, met)

    def test_one_place(self):
        self.assertEqual(mean_wait(LOOP), (0, 1))
        self.assertEqual(mean_wait(LOOP3), (0, 1))

    def test_by_hand(self):
        # At once, whatever is called.
        self.assertEqual(mean_wait(((0, 1), (0, 1))), (1, 1))
        self.assertEqual(mean_wait(((0, 1, 0), (0, 1, 0))), (1, 1))
        # By one sign of two, by one of three, and by two of three.
        self.assertEqual(mean_wait(((0, 0), (0, 1))), (2, 1))
        self.assertEqual(mean_wait(((0, 0, 0), (0, 1, 1))), (3, 1))
        self.assertEqual(mean_wait(((0, 0, 0), (0, 0, 1))), (3, 2))
        self.assertEqual(mean_wait(((0, 0), (0, 0), (1, 1))), (2, 1))
        self.assertEqual(mean_wait(CERNY), (50, 1))

    def test_by_the_words_of_each_length(self):
        # The mean is all chances together that so many signs were not enough, of no sign, of one and so on.
        for net in MET[24][:4] + [((0, 0, 0), (0, 0, 1)), ((0, 2), (0, 0), (1, 0))]:
            late = [1 - counted(net, m)[0] / len(net[0]) ** m for m in range(61)]
            # What comes beyond sixty signs shrinks by the same part each time.
            rest = late[60] * late[60] / (late[59] - late[60]) if late[60] > 1e-12 else 0
            top, bottom = mean_wait(net)
            self.assertAlmostEqual(sum(late) + rest, top / bottom, places=2)

    def test_a_fraction_that_is_no_whole_number(self):
        self.assertTrue(any(mean_wait(net)[1] > 1 for net in MET[23] + MET[24]))

    def test_just_twenty_four_sets(self):
        for many in (23, 24):
            for net in MET[many]:
                self.assertEqual(len(plain_images(net)), many)
                self.assertEqual(len(sets_met(net)), many)
                self.check(net)

    def test_too_many(self):
        for many in (25, 26):
            for net in MET[many]:
                self.assertEqual(len(sets_met(net)), many)
                self.assertEqual(least_left(net), 1)
                with self.assertRaises(TooMany):
                    mean_wait(net)
        for net in LONG_CALLS[3:] + [NINE3]:
            with self.assertRaises(TooMany):
                mean_wait(net)

    def test_no_call(self):
        for net in (TURN, PRISM, ROUND6, NO_STABLE6, NO_STABLE9, ((0, 0), (1, 1)), ((0, 0, 0), (1, 1, 1))):
            with self.assertRaises(NoCall):
                mean_wait(net)

    def test_no_call_goes_ahead_of_too_many(self):
        for net in MANY_MET_NO_CALL:
            self.assertGreater(len(sets_met(net)), 24)
            with self.assertRaises(NoCall):
                mean_wait(net)

    def test_no_net(self):
        refuses_no_nets(self, NoNet, mean_wait)


if __name__ == "__main__":
    unittest.main()
