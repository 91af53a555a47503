"""Papers as texts (point 31)."""

import random
import unittest

from roadcall.errors import NoPaper, NoText
from roadcall.nets import is_net
from roadcall.papers import look
from roadcall.papertexts import read_paper, show_paper
from roadcall.tellers import paper_of_beat, paper_of_call, paper_of_pair
from things import (CERNY, LONG, LONG_CALLS, LOOP, LOOP3, NINE3, OTHERS, PRISM, ROUND6, TURN, beat_nets, deep, pairs_of,
                    small_nets, some_nets, walk, whole_nets)

SIXTY = "1" + "0" * 59
WRITTEN = {
    "call 12,20,01 ab 2": ("call", ((1, 2), (2, 0), (0, 1)), "ab", 2),
    "call 00 - 1": ("call", ((0, 0),), "", 1),
    "call 000 c 1": ("call", ((0, 0, 0),), "c", 1),
    "call 120,201,012 cab 0": ("call", ((1, 2, 0), (2, 0, 1), (0, 1, 2)), "cab", 0),
    "beat 1 0": ("beat", 1, (0,)),
    "beat 4 011223": ("beat", 4, (0, 1, 1, 2, 2, 3)),
    "beat 10 876543210": ("beat", 10, (8, 7, 6, 5, 4, 3, 2, 1, 0)),
    "never 01": ("never", ((0, 1),)),
    "never 01,02,78": ("never", ((0, 1), (0, 2), (7, 8))),
    "stable 12 a": ("stable", ((1, 2),), ("a",)),
    "stable 12,34 aa,b": ("stable", ((1, 2), (3, 4)), ("aa", "b")),
    "stable 12 -": ("stable", ((1, 2),), ("",)),
    "stable 12,34 c,-": ("stable", ((1, 2), (3, 4)), ("c", "")),
}
# Written as papers are, though no net lets them by: they are read all the same.
SHOW_NOTHING = {
    "call 88 ab 2": ("call", ((8, 8),), "ab", 2),
    "call 12,20 - 1": ("call", ((1, 2), (2, 0)), "", 1),
    "call 888 abc 0": ("call", ((8, 8, 8),), "abc", 0),
    f"call 00 a {SIXTY}": ("call", ((0, 0),), "a", int(SIXTY)),
    f"call 00 a {LONG}": ("call", ((0, 0),), "a", LONG),
    "beat 0 0": ("beat", 0, (0,)),
    f"beat {SIXTY} 0": ("beat", int(SIXTY), (0,)),
    f"beat {LONG} 88": ("beat", LONG, (8, 8)),
    "beat 1 " + "0" * 200: ("beat", 1, (0,) * 200),
    "never 00": ("never", ((0, 0),)),
    "never 10": ("never", ((1, 0),)),
    "never 12,01,01": ("never", ((1, 2), (0, 1), (0, 1))),
    # More words than pairs, and fewer.
    "stable 12 a,b,c": ("stable", ((1, 2),), ("a", "b", "c")),
    "stable 12,34,56 a": ("stable", ((1, 2), (3, 4), (5, 6)), ("a",)),
    "stable 88 -,-": ("stable", ((8, 8),), ("", "")),
}
NOT_WRITTEN = [
    "", " ", "  ", "\n", "-", "a", "paper", "call", "beat", "never", "stable", "call ", "beat ", "never ", "stable ",
    "never  ", "Call 00 a 1", "CALL 00 a 1", "calls 00 a 1", "cal 00 a 1", "none 01", "01", "00 a 1", "yes",
    # Too few parts, and too many.
    "call 00", "call 00 a", "call 00 a 1 1", "beat 1", "beat 1 0 0", "never 01 02", "stable 01", "stable 01 a a",
    "call 12 20 01 ab 2", "beat 2 0 1", "stable 12,34 aa b",
    # The signing.
    "call - a 1", "call 0 a 1", "call 0000 a 1", "call 00,000 a 1", "call 000,00 a 1", "call 09 a 1", "call 90,00 a 1",
    "call 00, a 1", "call ,00 a 1", "call 00,,00 a 1", "call , a 1", "call 00;00 a 1", "call ab a 1", "call 0a a 1",
    "call " + ",".join(["00"] * 10) + " a 1", "call " + ",".join(["000"] * 10) + " a 1", "call 00,0 a 1",
    # The word.
    "call 00 d 1", "call 00 A 1", "call 00 -- 1", "call 00 a- 1", "call 00 -a 1", "call 00 a,b 1", "call 00 0 1",
    "call 00 a, 1", "call 00 " + "a" * 2001 + " 1",
    # Left, and the beat.
    "call 00 a -", "call 00 a a", "call 00 a 01", "call 00 a 00", "call 00 a +1", "call 00 a -1", "call 00 a -0",
    "call 00 a 1.", "call 00 a 1_0", "call 00 a 1,", "call 00 a 0x1", "call 00 a 1e1", f"call 00 a {SIXTY}0",
    f"call 00 a {LONG}9", "call 00 a 0" + SIXTY, "call 00 a " + "0" * 60,
    "beat - 0", "beat a 0", "beat 01 0", "beat 00 0", "beat +1 0", "beat -1 0", "beat 1, 0", "beat 1.0 0",
    f"beat {SIXTY}0 0", f"beat {LONG}0 0", "beat 0" + SIXTY[1:] + " 0",
    # The numbers.
    "beat 1 -", "beat 1 9", "beat 2 019", "beat 1 a", "beat 1 0,0", "beat 1 0,", "beat 1 ,0", "beat 1 -1", "beat 1 +0",
    # Pairs.
    "never -", "never 0", "never 012", "never 01,2", "never 0,12", "never 01,", "never ,01", "never 01,,02", "never ,",
    "never 09", "never 91", "never 0a", "never ab", "never 01;02", "never 01,02,", "never -1", "never 0-1",
    "stable - a", "stable 0 a", "stable 012 a", "stable 12, a", "stable ,12 a", "stable 12,,34 a,b", "stable 19 a",
    # Words.
    "stable 12 ,", "stable 12 a,", "stable 12 ,a", "stable 12 a,,b", "stable 12 d", "stable 12 a,d", "stable 12 a-",
    "stable 12 --", "stable 12 a,0", "stable 12 A", "stable 12 a;b", "stable 12 a," + "b" * 2001,
]


def papers():
    """Papers of all four kinds, of one to nine places and of two and three ways, with the nets that let them by."""
    chance = random.Random(2)
    told = []
    for net in small_nets() + some_nets(times=3) + LONG_CALLS + beat_nets(times=1) + [PRISM, ROUND6]:
        word = "".join(chance.choice("abc"[:len(net[0])]) for _ in range(chance.randrange(9)))
        told.append((net, ("call", net, word, len({walk(net, place, word) for place in range(len(net))}))))
        told.extend((net, paper_of_pair(net, pair)) for pair in pairs_of(net)[-2:])
    for net in whole_nets(times=3) + beat_nets(times=1):
        told.append((net, paper_of_call(net)))
        told.append((net, paper_of_beat(net)))
    return [(net, paper) for net, paper in told if paper is not None]


class ShowPaper(unittest.TestCase):
    def test_by_hand(self):
        for text, paper in WRITTEN.items():
            self.assertEqual(show_paper(paper), text)

    def test_papers_that_are_let_by(self):
        for net, text in ((CERNY, "call 11,12,23,30 abbbabbba 1"), (LOOP, "call 00 - 1"), (LOOP3, "beat 1 0"),
                          (ROUND6, "beat 4 011223"), (TURN, "never 01"), (ROUND6, "stable 12,34 aa,b")):
            paper = read_paper(text)
            self.assertIsNone(look(net, paper))
            self.assertEqual(show_paper(paper), text)

    def test_read_again_as_the_same(self):
        met = set()
        for net, paper in papers():
            self.assertIsNone(look(net, paper))
            text = show_paper(paper)
            self.assertIsInstance(text, str)
            self.assertEqual(read_paper(text), paper)
            met.add((paper[0], len(net[0])))
        self.assertEqual(len(met), 8)

    def test_long_words(self):
        for net, word in ((CERNY, "ab" * 1000), (NINE3, "abcc" * 500)):
            paper = ("call", net, word, len({walk(net, place, word) for place in range(len(net))}))
            self.assertIsNone(look(net, paper))
            self.assertEqual(read_paper(show_paper(paper)), paper)


class ReadPaper(unittest.TestCase):
    def test_by_hand(self):
        for text, paper in list(WRITTEN.items()) + list(SHOW_NOTHING.items()):
            told = read_paper(text)
            self.assertEqual(told, paper)
            self.assertIsInstance(told, tuple)

    def test_kinds(self):
        def check(thing):
            """Tuples, texts and whole numbers alone."""
            if isinstance(thing, tuple):
                for inner in thing:
                    check(inner)
            else:
                self.assertIn(type(thing), (str, int))
        for text in list(WRITTEN) + list(SHOW_NOTHING):
            check(read_paper(text))

    def test_a_signing_that_is_no_net(self):
        for text in ("call 88 ab 2", "call 12,20 - 1", "call 888 abc 0"):
            paper = read_paper(text)
            self.assertFalse(is_net(paper[1]))
            self.assertTrue(all(isinstance(row, tuple) for row in paper[1]))
            for net in (LOOP, CERNY, NINE3):
                with self.assertRaises(NoPaper) as caught:
                    look(net, paper)
                self.assertEqual(caught.exception.at, 1)

    def test_bounds(self):
        word = "abc" * 666 + "ab"
        self.assertEqual(read_paper(f"call 00 {word} 1"), ("call", ((0, 0),), word, 1))
        self.assertEqual(read_paper(f"stable 01 {word},{word}"), ("stable", ((0, 1),), (word, word)))
        nine = ",".join(["00"] * 9)
        self.assertEqual(read_paper(f"call {nine} - 1"), ("call", ((0, 0),) * 9, "", 1))

    def test_no_text(self):
        for text in NOT_WRITTEN:
            with self.subTest(text=text[:40]):
                with self.assertRaises(NoText):
                    read_paper(text)

    def test_what_is_no_text(self):
        for thing in OTHERS + [("call", LOOP, "", 1), ["never 01"], ("never 01",), ("never", "01"), deep(list), 0, LONG]:
            with self.assertRaises(NoText):
                read_paper(thing)

    def test_blanks_and_line_ends_anywhere(self):
        for text in WRITTEN:
            for at in range(len(text) + 1):
                for more in ("\n", "  ", "\n\n", "\t"):
                    with self.assertRaises(NoText):
                        read_paper(text[:at] + more + text[at:])
            for wrong in (" " + text, text + " ", text.replace(" ", "  "), text.replace(" ", "\n"), text.replace(" ", ","),
                          text + "\n", "\n" + text, text + " \n", text + ","):
                with self.assertRaises(NoText):
                    read_paper(wrong)

    def test_figures_that_are_none_of_nought_to_nine(self):
        for figure in ("a", "x", "O", "l", "/", ":", "*"):
            for text in ("call 0{} a 1", "call 00 a {}", "call 00 a 1{}", "beat {} 0", "beat 1{} 0", "beat 1 {}", "beat 1 0{}",
                         "never 0{}", "stable 0{} a"):
                with self.assertRaises(NoText):
                    read_paper(text.replace("{}", figure))


if __name__ == "__main__":
    unittest.main()
