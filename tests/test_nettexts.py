"""Nets and words as texts (point 31)."""

import unittest

from roadcall.errors import NoNet, NoText, NoWord
from roadcall.nettexts import read_net, read_word, show_net, show_word
from things import (CERNY, LONG, LOOP, LOOP3, NINE, NINE3, OTHERS, TURN, all_nets, deep, refuses_no_nets, small_nets,
                    some_nets, words_up_to)

NO_TEXTS = [thing for thing in OTHERS if not isinstance(thing, str)] + [
    0, 1, 12, True, None, ["12 20 01"], ("12", "20", "01"), ["12", "20", "01"], ((1, 2), (2, 0), (0, 1)), [["a"]], LOOP]
# Written as a net is not.
NOT_WRITTEN = [
    "", " ", "  ", "\n", "-", "a", "net", "0", "00 0", "0 00", "1", "0000", "00000", "00 000", "000 00", "01 10 1",
    " 12 20 01", "12 20 01 ", "12  20 01", "12 20  01", " 12 20 01 ", "  12 20 01", "12 20 01  ",
    "12 20 01\n", "\n12 20 01", "12\n20\n01", "12\n20 01", "12 2\n0 01", "12 20 01\n\n", "12 20 01 \n", "12\n 20 01",
    "12,20,01", "12,20 01", "12 20 01,", ",12 20 01", "12, 20, 01", "12;20;01", "12 20 01.",
    "19 20 01", "92 20 01", "99", "999", "09", "000 000 009", "1a 20 01", "ab ba", "-1 20 01", "+12 20 01", "1-2 20 01",
    "12 20 01 none", "1 2 2 0 0 1", "122001", "12 20 0", "12 20 011", "012 201 01", "0_0", "0.", "((0, 0),)",
    " ".join(["00"] * 10), " ".join(["000"] * 10), " ".join(["00"] * 11), "00 " * 9, "0" * 5000, "00 " * 1666, "x" * 5000,
]
# Written as a net is, but none.
NO_NETS_WRITTEN = [
    "01", "10", "11", "88", "001", "100", "888", "12 20", "02 00", "00 20", "00 22", "012 000", "12 20 03", "33 00 00",
    "80 00 00 00 00 00 00 00", "08 00 00 00 00 00 00 00",
    "000 000 000 000 000 000 000 008",
]


class ShowNet(unittest.TestCase):
    def test_by_hand(self):
        self.assertEqual(show_net(((1, 2), (2, 0), (0, 1))), "12 20 01")
        self.assertEqual(show_net(LOOP), "00")
        self.assertEqual(show_net(LOOP3), "000")
        self.assertEqual(show_net(TURN), "11 00")
        self.assertEqual(show_net(CERNY), "11 12 23 30")
        self.assertEqual(show_net(NINE), "11 20 30 40 50 60 70 80 00")

    def test_read_again_as_the_same(self):
        for net in small_nets() + some_nets() + all_nets(3, 3)[::97]:
            text = show_net(net)
            self.assertEqual(read_net(text), net)
            self.assertEqual(text, " ".join("".join(str(goal) for goal in row) for row in net))

    def test_no_net(self):
        refuses_no_nets(self, NoNet, show_net)


class ReadNet(unittest.TestCase):
    def test_by_hand(self):
        self.assertEqual(read_net("12 20 01"), ((1, 2), (2, 0), (0, 1)))
        self.assertEqual(read_net("00"), ((0, 0),))
        self.assertEqual(read_net("000"), ((0, 0, 0),))
        self.assertEqual(read_net(" ".join(["08"] * 9)), ((0, 8),) * 9)
        self.assertEqual(read_net(" ".join(["876"] * 9)), ((8, 7, 6),) * 9)

    def test_kinds(self):
        for text in ("12 20 01", "000", " ".join(["876"] * 9)):
            net = read_net(text)
            self.assertIsInstance(net, tuple)
            for row in net:
                self.assertIsInstance(row, tuple)
                self.assertEqual({type(goal) for goal in row}, {int})

    def test_written_again_as_the_same(self):
        for text in ("00", "000", "12 20 01", "11 00", "120 201 012", " ".join(["876"] * 9)):
            self.assertEqual(show_net(read_net(text)), text)

    def test_no_text(self):
        for thing in NOT_WRITTEN + NO_TEXTS:
            with self.subTest(thing=str(thing)[:40]):
                with self.assertRaises(NoText):
                    read_net(thing)

    def test_written_but_no_net(self):
        for text in NO_NETS_WRITTEN:
            with self.subTest(text=text):
                with self.assertRaises(NoNet):
                    read_net(text)

    def test_not_written_goes_ahead_of_no_net(self):
        for text in ("88 ", " 88", "88\n", "88 9", "89", "88 888", "88  88"):
            with self.assertRaises(NoText):
                read_net(text)


class ShowWord(unittest.TestCase):
    def test_read_again_as_the_same(self):
        for net in (LOOP, LOOP3, CERNY, NINE3):
            for word in words_up_to(net, 4):
                text = show_word(net, word)
                self.assertEqual(text, word or "-")
                self.assertEqual(read_word(text), word)

    def test_no_signs(self):
        self.assertEqual(show_word(CERNY, ""), "-")

    def test_two_thousand_signs(self):
        for net, word in ((CERNY, "ab" * 1000), (NINE3, "abcb" * 500)):
            self.assertEqual(show_word(net, word), word)
            self.assertEqual(read_word(word), word)

    def test_no_word(self):
        wrong = [thing for thing in OTHERS if thing != ""] + ["c", "abc", "d", "-", "a-", "A", "a ", "a\n", "a" * 2001,
                                                              ["a"], ("a", "b"), 0]
        for thing in wrong:
            with self.assertRaises(NoWord):
                show_word(CERNY, thing)
        with self.assertRaises(NoWord):
            show_word(NINE3, "abcd")
        self.assertEqual(show_word(NINE3, "abc"), "abc")

    def test_no_net_goes_first(self):
        for word in ("", "a", "-", "d", None, 0, [], "a" * 2001):
            refuses_no_nets(self, NoNet, lambda net: show_word(net, word))


class ReadWord(unittest.TestCase):
    def test_words(self):
        self.assertEqual(read_word("-"), "")
        for text in ("a", "b", "c", "ab", "cab", "abcabc", "a" * 1999, "a" * 2000, "abbc" * 500):
            self.assertEqual(read_word(text), text)

    def test_no_text(self):
        wrong = NO_TEXTS + [
            "", " ", "  ", "\n", "--", "-a", "a-", "- ", " -", "-\n", "\n-", "a ", " a", "a b", "a  b", "a\n", "\na", "a\nb",
            "a\n\n", "d", "abd", "A", "aB", "0", "1", "a1", "a,b", "a,", ",a", "a.", "none", "never", "a" * 2001,
            "abc" * 667, "c" * 5000, "-" * 2000,
        ]
        for thing in wrong:
            with self.subTest(thing=str(thing)[:40]):
                with self.assertRaises(NoText):
                    read_word(thing)


class AnyThing(unittest.TestCase):
    def test_deep_things_are_no_texts(self):
        for thing in (deep(list), deep(tuple), [0] * 999, ("00",) * 9, LONG, -LONG):
            for read in (read_net, read_word):
                with self.assertRaises(NoText):
                    read(thing)


if __name__ == "__main__":
    unittest.main()
