"""Nets, their signs and words (points 2, 4, 5)."""

import itertools
import unittest

from roadcall.errors import NoNet
from roadcall.nets import is_net, is_word, signs_of
from things import LONG, NO_NETS, OTHERS, deep, refuses_no_nets, small_nets, some_nets


class Nets(unittest.TestCase):
    def test_nets(self):
        for net in some_nets() + small_nets():
            self.assertIs(is_net(net), True, net)

    def test_of_one_and_of_nine_places(self):
        for width in (2, 3):
            self.assertIs(is_net(((0,) * width,)), True)
            self.assertIs(is_net(((8,) * width,) * 9), True)
            self.assertIs(is_net(((0,) * width,) * 9), True)

    def test_other_things(self):
        for thing in NO_NETS:
            self.assertIs(is_net(thing), False, str(thing)[:60])

    def test_ten_rows_and_none(self):
        self.assertIs(is_net(()), False)
        for width in (2, 3):
            self.assertIs(is_net(((0,) * width,) * 10), False)

    def test_rows_of_other_lengths(self):
        for widths in itertools.product(range(5), repeat=3):
            net = tuple((0,) * width for width in widths)
            self.assertIs(is_net(net), widths in ((2, 2, 2), (3, 3, 3)), widths)

    def test_a_wrong_thing_at_each_spot(self):
        for width in (2, 3):
            for row in range(3):
                for at in range(width):
                    for thing in (True, False, None, "0", "a", -1, 3, LONG, -LONG, [0], (0,), (), deep(list, 10)):
                        rows = [[0] * width for _ in range(3)]
                        rows[row][at] = thing
                        self.assertIs(is_net(tuple(tuple(r) for r in rows)), False, (width, row, at, thing))

    def test_lists_in_the_stead_of_tuples(self):
        rows = [(0, 1), (1, 0), (2, 2)]
        self.assertIs(is_net(tuple(rows)), True)
        self.assertIs(is_net(rows), False)
        for at in range(3):
            self.assertIs(is_net(tuple(list(row) if at == k else row for k, row in enumerate(rows))), False)

    def test_signs(self):
        for net in some_nets():
            self.assertEqual(signs_of(net), "ab" if len(net[0]) == 2 else "abc")

    def test_signs_refused(self):
        refuses_no_nets(self, NoNet, signs_of)

    def test_nothing_is_changed(self):
        thing = [[0, 1], [1, 0]]
        is_net(thing)
        self.assertEqual(thing, [[0, 1], [1, 0]])


class Words(unittest.TestCase):
    TWO = ((0, 1), (1, 0))
    THREE = ((0, 1, 1), (1, 0, 0))

    def test_without_signs(self):
        self.assertIs(is_word(self.TWO, ""), True)
        self.assertIs(is_word(self.THREE, ""), True)

    def test_lengths(self):
        for sign in "ab":
            self.assertIs(is_word(self.TWO, sign), True)
            self.assertIs(is_word(self.TWO, sign * 2000), True)
            self.assertIs(is_word(self.TWO, sign * 2001), False)
        self.assertIs(is_word(self.THREE, "abcb" * 500), True)
        self.assertIs(is_word(self.THREE, "abcb" * 500 + "c"), False)
        self.assertIs(is_word(self.THREE, "a" * 5000), False)

    def test_the_sign_c(self):
        for word in ("c", "abc", "cab", "acb", "a" * 1999 + "c"):
            self.assertIs(is_word(self.TWO, word), False)
            self.assertIs(is_word(self.THREE, word), True)

    def test_other_signs(self):
        for other in " dABC0~-_\n'`":
            for word in (other, "a" + other, other + "a", "a" + other + "b", "a" * 1999 + other):
                self.assertIs(is_word(self.TWO, word), False, word[-5:])
                self.assertIs(is_word(self.THREE, word), False, word[-5:])

    def test_things_that_are_no_texts(self):
        for thing in OTHERS + [["a", "b"], ("a", "b"), ["ab"], 0, 1]:
            if thing != "":
                self.assertIs(is_word(self.TWO, thing), False, str(thing)[:60])
                self.assertIs(is_word(self.THREE, thing), False, str(thing)[:60])

    def test_no_net(self):
        for thing in ("", "ab", "d", None, 7, [], "a" * 2001):
            refuses_no_nets(self, NoNet, lambda net: is_word(net, thing))


if __name__ == "__main__":
    unittest.main()
