"""What the desk refuses, and in which order (point 33)."""

import unittest

from roadcall.desk import Desk
from roadcall.errors import NoNumber, NoPair, NoPlace, NoRow, NoSet, NoSign, NoText, NoWord, RoadError
from roadcall.nettexts import show_net
from things import CERNY, LONG, NINE3, OTHERS, ROUND6, TURN, deep

SIXTY = "1" + "0" * 59
NAMES = {
    "exchange": "0 a b", "road": "0 a 0", "sign": "0", "call": "", "undo": "", "net": "", "number": "", "signings": "",
    "parts": "", "beat": "", "weights": "", "led": "0 ab", "image": "01 ab", "pair": "0 1", "stable": "", "classes": "",
    "rings": "a", "shortest": "01", "callers": "3", "wait": "", "least": "", "partings": "", "look": "never 01",
}
# What is no single figure, no single sign, no figures that rise, no number.
NO_FIGURES = ["", "a", "-", "00", "01", "10", "-1", "+1", "0\n", "\n0", "\n", "x", "0,", "P", "none", SIXTY]
NO_SIGNS = ["", "A", "d", "0", "-", "ab", "aa", "abc", "a\n", "\na", "\n", "a,", "S"]
NO_SETS = ["", "-", "a", "00", "10", "011", "0110", "021", "0,1", "01,", "01\n", "\n01", "\n", "0a", "-1", "(0,1)", "987",
           "01234567899", "SET"]
NO_NUMBERS = ["", "-", "a", "00", "01", "007", "-0", "-1", "+1", "1.", "1,", "1_0", "0x1", "1\n", "\n1", "\n", "1e1", "N",
              SIXTY + "0", "9" * 61, "0" + SIXTY, "0" * 60, "1" * 200]
NOT_WORDS = ["", "d", "A", "0", "a-", "--", "-a", "a,b", "a\n", "\na", "a\nb", "\n", "a" * 2001, "WORD"]
NOT_PAPERS = ["", " ", "\n", "paper", "call", "yes", "never", "never ", "never 0", "never 09", "never 01 ", " never 01",
              "never  01", "never 01\n", "never\n01", "beat 1", "beat 01 0", "call 00 d 1", "call 00 a", "stable 01",
              f"beat {SIXTY}0 0", "call 00 " + "a" * 2001 + " 1", "PAPER"]


class Refused(unittest.TestCase):
    def check(self, row, error, nets=(CERNY,)):
        for net in nets:
            desk = Desk(show_net(net))
            with self.subTest(row=str(row)[:60]):
                with self.assertRaises(RoadError) as caught:
                    desk.say(row)
                self.assertIs(type(caught.exception), error)
                self.assertEqual(desk.say("net"), show_net(net))


class NoRows(Refused):
    def test_each_row_as_it_should_be(self):
        for name, rest in NAMES.items():
            desk = Desk(show_net(CERNY))
            desk.say("exchange 0 a b")
            self.assertIsInstance(desk.say(f"{name} {rest}".strip()), str)

    def test_no_text(self):
        for thing in OTHERS + [["net"], ("net",), [["net"]], None, 0, LONG, True, deep(list)]:
            self.check(thing, NoRow)

    def test_another_first_word(self):
        for row in ("", " ", "\n", "nets", "Net", "NET", "ne", "redo", "none", "ok", "0", "a", "-", "calls", "exchanges 0 a b",
                    "say net", "net;number", "net,number", "looks never 01", "Look never 01", "x" * 5000, "N 1"):
            self.check(row, NoRow)

    def test_too_few_and_too_many_words(self):
        for name, rest in NAMES.items():
            words = rest.split(" ") if rest else []
            if name == "look":
                continue
            for many in range(len(words)):
                self.check(" ".join([name] + words[:many]), NoRow)
            for more in ("0", "a", "x", "0 a"):
                self.check(" ".join([name] + words + [more]), NoRow)

    def test_look_alone(self):
        self.check("look", NoRow)
        self.check("look\n", NoRow)
        self.check("look\nnever 01", NoRow)
        self.check(" look never 01", NoRow)
        # A blank behind it: then the paper is the text without signs.
        self.check("look ", NoText)

    def test_blanks_at_an_end_or_two_beside_one_another(self):
        for name, rest in NAMES.items():
            if name == "look":
                continue
            row = f"{name} {rest}".strip()
            for wrong in (" " + row, row + " ", "  " + row, row + "  ", " " + row + " "):
                self.check(wrong, NoRow)
            for at in range(len(row)):
                if row[at] == " ":
                    self.check(row[:at] + " " + row[at:], NoRow)

    def test_line_ends(self):
        for name, rest in NAMES.items():
            row = f"{name} {rest}".strip()
            self.check("\n" + row, NoRow)
            for at in range(1, len(name) + 1):
                self.check(row[:at] + "\n" + row[at:], NoRow)
        for row in ("net\n", "net\n\n", "undo\n", "call\n", "callers 3\n", "callers\n3", "callers \n3", "rings a\n", "pair 0 1\n",
                    "pair 0\n1", "pair 0\n 1", "shortest 01\n", "shortest 0\n1", "exchange 0 a b\n", "road 0 a 0\n", "sign 0\n",
                    "led 0\n ab", "led \n0 ab", "image 0\n1 ab", "net\nnumber", "exchange 0 a\nb"):
            self.check(row, NoRow)
        # A word, and a paper, with a line end is not so written.
        for row in ("led 0 ab\n", "led 0 \nab", "led 0 a\nb", "image 01 ab\n", "look never 01\n", "look \nnever 01",
                    "look never\n01", "look \n"):
            self.check(row, NoText)

    def test_no_single_figure(self):
        for text in NO_FIGURES:
            for row in (f"exchange {text} a b", f"road {text} a 0", f"road 0 a {text}", f"led {text} ab", f"pair {text} 1",
                        f"pair 0 {text}", f"pair {text} {text}"):
                self.check(row, NoRow)

    def test_no_single_sign(self):
        for text in NO_SIGNS:
            for row in (f"exchange 0 {text} b", f"exchange 0 a {text}", f"road 0 {text} 1", f"rings {text}"):
                self.check(row, NoRow)

    def test_no_figures_that_rise(self):
        for text in NO_SETS:
            for row in (f"image {text} ab", f"shortest {text}"):
                self.check(row, NoRow)

    def test_no_number(self):
        for text in NO_NUMBERS:
            for row in (f"sign {text}", f"callers {text}"):
                self.check(row, NoRow)

    def test_signs_not_in_their_order(self):
        for one, other in ("aa", "ba", "bb", "ca", "cb", "cc"):
            self.check(f"exchange 0 {one} {other}", NoRow, (CERNY, NINE3, TURN))
            # Ahead of the place, and of the sign that a net of two ways does not have.
            self.check(f"exchange 9 {one} {other}", NoRow, (CERNY, NINE3, TURN))

    def test_ahead_of_no_text(self):
        for word in NOT_WORDS:
            for text in NO_FIGURES:
                self.check(f"led {text} {word}", NoRow)
            for text in NO_SETS:
                self.check(f"image {text} {word}", NoRow)
        self.check("led 0 d e", NoRow)
        self.check("led 0 d ", NoRow)

    def test_ahead_of_what_the_functions_refuse(self):
        for row in ("exchange 9 a d", "exchange 9 c a", "road 9 d 0", "road 9 c 10", "road 9 a x", "led 99 c", "pair 1 0 0",
                    "pair 9 x", "image 10 c", "sign 99 99", "callers 61 1", "callers 061"):
            self.check(row, NoRow)


class NoTexts(Refused):
    def test_no_word_as_written(self):
        for word in NOT_WORDS:
            for row in (f"led 0 {word}", f"image 01 {word}"):
                self.check(row, NoText)

    def test_no_paper_as_written(self):
        for text in NOT_PAPERS:
            self.check("look " + text, NoText)

    def test_ahead_of_what_the_functions_refuse(self):
        for word in NOT_WORDS:
            for row in (f"led 9 {word}", f"led 8 {word}", f"image 9 {word}", f"image 48 {word}"):
                self.check(row, NoText)

    def test_words_of_two_thousand_signs(self):
        desk = Desk(show_net(TURN))
        self.assertEqual(desk.say("led 0 " + "ab" * 1000), "0")
        self.assertEqual(desk.say("image 01 " + "ab" * 1000), "01")
        self.assertEqual(desk.say("look call 11,00 " + "ab" * 1000 + " 2"), "yes")
        self.check("led 0 a" + "ab" * 1000, NoText)
        self.check("look call 11,00 a" + "ab" * 1000 + " 2", NoText)


class WhatTheFunctionsRefuse(Refused):
    def test_no_place(self):
        for place in "456789":
            for row in (f"exchange {place} a b", f"road {place} a 0", f"led {place} ab"):
                self.check(row, NoPlace)
            # The first place and the sign are looked at ahead of the second place.
            self.check(f"road 0 a {place}", NoPlace)
            self.check(f"road 0 c {place}", NoSign)
            self.check(f"road {place} c {place}", NoPlace)
            # P first.
            for row in (f"exchange {place} a c", f"exchange {place} b c", f"road {place} c 0", f"led {place} c",
                        f"led {place} abc"):
                self.check(row, NoPlace)
        self.check("road 9 c 9", NoPlace, (CERNY, NINE3, TURN))

    def test_no_sign(self):
        for row in ("exchange 0 a c", "exchange 0 b c", "exchange 3 a c", "road 0 c 0", "road 0 c 9", "rings c"):
            self.check(row, NoSign, (CERNY, ROUND6))
        desk = Desk(show_net(NINE3))
        self.assertEqual([desk.say(row) for row in ("exchange 0 b c", "road 0 c 8")], ["ok", "ok"])
        self.assertIsInstance(desk.say("rings c"), str)

    def test_no_set(self):
        for places in ("4", "9", "04", "01234", "123456789", "0123456789", "89"):
            self.check(f"shortest {places}", NoSet)
            # Ahead of the word.
            for word in ("-", "ab", "c", "abc"):
                self.check(f"image {places} {word}", NoSet)

    def test_no_word(self):
        for word in ("c", "abc", "c" * 2000):
            self.check(f"led 0 {word}", NoWord)
            self.check(f"image 0123 {word}", NoWord)
        self.assertEqual(Desk(show_net(NINE3)).say("led 0 c"), "0")

    def test_no_pair_alone(self):
        for row in ("pair 0 0", "pair 1 0", "pair 3 2", "pair 0 4", "pair 4 0", "pair 9 9", "pair 8 9", "pair 9 0", "pair 4 5"):
            self.check(row, NoPair)

    def test_no_number(self):
        for number in ("8", "9", "64", SIXTY, "9" * 60):
            self.check(f"sign {number}", NoNumber)
        for number in ("61", "62", "100", SIXTY, "9" * 60):
            self.check(f"callers {number}", NoNumber, (CERNY, TURN, NINE3))
        desk = Desk(show_net(CERNY))
        self.assertEqual(desk.say("sign 7"), "ok")
        self.assertEqual(sum(int(word) for word in desk.say("callers 60").split(" ")), 2 ** 60)


if __name__ == "__main__":
    unittest.main()
