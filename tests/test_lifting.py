"""Words of the net of classes, lifted to the net (point 18)."""

import random
import unittest

from roadcall.errors import NoNet, NoWord
from roadcall.lifting import lifted
from roadcall.nets import is_word
from roadcall.stable import net_of_classes
from things import (CERNY, LONG, LONG_CALLS, LOOP, LOOP3, NINE, NINE3, NO_STABLE6, NO_STABLE9, OTHERS, PRISM, ROUND6,
                    TURN, refuses_no_nets, small_nets, some_nets, walk, words_up_to)

NO_WORDS = [thing for thing in OTHERS if thing != ""] + [
    "c", "abc", "A", "a" * 2001, "ab" * 2000, ["a"], ("a",), ["a", "b"], 0, 1, "a\n", "-", "a b"]
NO_WORDS3 = [thing for thing in NO_WORDS if thing not in ("c", "abc")]


def many_left(net, word):
    return len({walk(net, place, word) for place in range(len(net))})


def long_words(net, seed):
    """Words of a thousand signs and of some fewer, always the same ones."""
    chance = random.Random(seed)
    signs = "abc"[:len(net[0])]
    return ["a" * 1000, "b" * 999] + ["".join(chance.choice(signs) for _ in range(size)) for size in (40, 1000)]


class Lifted(unittest.TestCase):
    def check(self, net, word):
        told = lifted(net, word)
        self.assertTrue(is_word(net, told))
        self.assertLessEqual(len(told), 2000)
        self.assertTrue(told.startswith(word))
        self.assertLessEqual(many_left(net, told), many_left(net_of_classes(net), word))

    def test_without_signs(self):
        for net in small_nets() + some_nets() + LONG_CALLS:
            self.check(net, "")

    def test_short_words(self):
        for net in some_nets(times=2) + LONG_CALLS:
            for word in words_up_to(net, 3):
                self.check(net, word)

    def test_words_of_a_thousand_signs(self):
        for seed, net in enumerate(some_nets(seed=4, times=3) + LONG_CALLS):
            for word in long_words(net, seed):
                self.check(net, word)

    def test_one_class(self):
        for net in [CERNY, NINE, LOOP, LOOP3, NINE3] + LONG_CALLS:
            self.assertEqual(len(net_of_classes(net)), 1)
            for word in ("", "a", "ab", "b" * 1000):
                self.assertEqual(many_left(net, lifted(net, word)), 1)

    def test_each_place_a_class_of_its_own(self):
        for net in (TURN, PRISM, NO_STABLE6, NO_STABLE9):
            for word in ("", "a", "ab", "bb", "b" * 1000):
                self.check(net, word)
                # Nothing can be called together further, so it has to leave as many as it did.
                self.assertEqual(many_left(net, lifted(net, word)), many_left(net, word))

    def test_some_classes(self):
        self.assertEqual(many_left(ROUND6, lifted(ROUND6, "")), 4)
        self.check(ROUND6, "abba")
        net = ((1, 2), (0, 0), (0, 0))
        self.assertEqual(many_left(net, lifted(net, "")), 2)

    def test_longer_words_are_words(self):
        for size in (1001, 1500, 2000):
            self.assertTrue(lifted(CERNY, "b" * size).startswith("b" * size))

    def test_no_word(self):
        for thing in NO_WORDS:
            for net in (LOOP, CERNY, PRISM):
                with self.assertRaises(NoWord):
                    lifted(net, thing)
        for thing in NO_WORDS3 + ["d", "abcd"]:
            for net in (LOOP3, NINE3, NO_STABLE9):
                with self.assertRaises(NoWord):
                    lifted(net, thing)

    def test_the_sign_c(self):
        self.check(NINE3, "c")
        self.check(NINE3, "abc" * 300)

    def test_no_net_goes_first(self):
        for word in ("", "a", "d", None, LONG, [], "a" * 2001):
            refuses_no_nets(self, NoNet, lambda net: lifted(net, word))


if __name__ == "__main__":
    unittest.main()
