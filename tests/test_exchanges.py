"""Exchanges (point 10)."""

import itertools
import unittest

from roadcall.errors import NoKin, NoNet, NoPlace, NoSign
from roadcall.exchanges import exchanged, exchanges
from things import CERNY, LONG, LOOP, LOOP3, NINE3, OTHERS, fewest, orders, refuses_no_nets, some_nets

NO_SIGNS = OTHERS + ["d", "A", "ab", "abc", "aa", ["a"], ("a",), 0, 1]


def two_signs(net):
    return list(itertools.combinations("abc"[:len(net[0])], 2))


class Exchanged(unittest.TestCase):
    def test_each_place_and_each_two_signs(self):
        for net in some_nets():
            for place in range(len(net)):
                for one, other in two_signs(net):
                    row = dict(zip("abc", net[place]))
                    row[one], row[other] = row[other], row[one]
                    want = [list(old) for old in net]
                    want[place] = list(row.values())
                    told = exchanged(net, place, one, other)
                    self.assertEqual(told, tuple(tuple(old) for old in want))
                    self.assertEqual(exchanged(told, place, one, other), net)

    def test_by_hand(self):
        net = ((0, 1, 2), (0, 1, 2), (0, 1, 2))
        self.assertEqual(exchanged(net, 1, "a", "b"), ((0, 1, 2), (1, 0, 2), (0, 1, 2)))
        self.assertEqual(exchanged(net, 0, "a", "c"), ((2, 1, 0), (0, 1, 2), (0, 1, 2)))
        self.assertEqual(exchanged(net, 2, "b", "c"), ((0, 1, 2), (0, 1, 2), (0, 2, 1)))

    def test_no_place(self):
        for thing in OTHERS + [4, "a"]:
            for one, other in (("a", "b"), ("b", "a"), ("a", "c"), (None, 3), ("", [])):
                with self.assertRaises(NoPlace):
                    exchanged(CERNY, thing, one, other)

    def test_no_sign(self):
        for thing in NO_SIGNS:
            for one, other in ((thing, "b"), ("a", thing), (thing, thing), ("b", thing), (thing, "a")):
                with self.assertRaises(NoSign):
                    exchanged(CERNY, 0, one, other)
                with self.assertRaises(NoSign):
                    exchanged(NINE3, 8, one, other)

    def test_the_sign_c(self):
        for one, other in (("a", "c"), ("b", "c"), ("c", "c"), ("c", "a")):
            with self.assertRaises(NoSign):
                exchanged(CERNY, 0, one, other)

    def test_alike_or_turned_about(self):
        for one, other in itertools.product("abc", repeat=2):
            if not one < other:
                for net in (CERNY, NINE3):
                    with self.assertRaises(NoSign):
                        exchanged(net, 0, one, other)

    def test_no_net_goes_first(self):
        for told in ((0, "a", "b"), (-1, "a", "b"), (0, "b", "a"), (None, None, None), (LONG, "", [])):
            refuses_no_nets(self, NoNet, lambda net: exchanged(net, *told))


class Exchanges(unittest.TestCase):
    def check(self, one, other):
        told = exchanges(one, other)
        self.assertIsInstance(told, list)
        net = one
        for step in told:
            self.assertIsInstance(step, tuple)
            place, first, second = step
            self.assertLess(first, second)
            net = exchanged(net, place, first, second)
        self.assertEqual(net, other)
        self.assertEqual(len(told), sum(fewest(row, goal) for row, goal in zip(one, other)), (one, other))

    def test_to_itself(self):
        for net in some_nets():
            self.assertEqual(exchanges(net, net), [])

    def test_all_orders_of_a_row(self):
        for row in [*itertools.product(range(3), repeat=2), *itertools.product(range(3), repeat=3)]:
            rest = ((0,) * len(row),) * 2
            for goal in orders(row):
                self.check((row,) + rest, (goal,) + rest)
                self.check(rest + (row,), rest + (goal,))

    def test_all_signings(self):
        net = ((0, 1, 2), (1, 1, 0), (2, 0, 1))
        nets = list(itertools.product(*[orders(row) for row in net]))
        for one, other in itertools.product(nets[::5], nets):
            self.check(one, other)

    def test_larger_nets(self):
        for net in some_nets():
            other = tuple(orders(row)[-1 - place % 2] if len(set(row)) > 1 else row for place, row in enumerate(net))
            self.check(net, other)
            self.check(other, net)

    def test_how_few(self):
        rest = ((0, 0, 0),) * 2
        self.assertEqual(len(exchanges(((0, 1, 2),) + rest, ((1, 2, 0),) + rest)), 2)
        self.assertEqual(exchanges(((1, 0, 0),) + rest, ((0, 0, 1),) + rest), [(0, "a", "c")])
        self.assertEqual(len(exchanges(((0, 1),) * 2, ((1, 0),) * 2)), 2)

    def test_lists_are_the_askers_own(self):
        one, other = ((0, 1), (0, 1)), ((1, 0), (0, 1))
        first = exchanges(one, other)
        second = exchanges(one, other)
        first.append(None)
        self.assertEqual(second, [(0, "a", "b")])
        self.assertEqual(exchanges(one, other), [(0, "a", "b")])

    def test_no_kin(self):
        for one, other in ((LOOP, LOOP3), (LOOP, CERNY), (CERNY, CERNY + ((0, 0),)), (CERNY, CERNY[:3] + ((3, 3),)),
                           (((0, 1), (1, 1)), ((1, 1), (0, 1))), (((0, 0, 1), (0, 0, 0)), ((0, 1, 1), (0, 0, 0)))):
            with self.assertRaises(NoKin):
                exchanges(one, other)
            with self.assertRaises(NoKin):
                exchanges(other, one)

    def test_no_net_goes_first(self):
        refuses_no_nets(self, NoNet, lambda net: exchanges(net, CERNY))
        refuses_no_nets(self, NoNet, lambda net: exchanges(CERNY, net))
        refuses_no_nets(self, NoNet, lambda net: exchanges(net, net))


if __name__ == "__main__":
    unittest.main()
