"""The desk: its deeds and its questions (point 32), and what it promises behind any row of deeds (point 3)."""

import random
import unittest

from roadcall.beats import beat
from roadcall.callers import counted
from roadcall.desk import Desk
from roadcall.errors import NoCall, NoDeed, NoNet, NoNumber, NoPaper, NoText, NoWhole, RoadError, TooMany
from roadcall.least import least_images
from roadcall.nettexts import read_word, show_net
from roadcall.pairs import call_of
from roadcall.papers import look
from roadcall.papertexts import read_paper, show_paper
from roadcall.partings import least_partings
from roadcall.rings import rings
from roadcall.shortest import shortest
from roadcall.signings import number_of, signing, signings
from roadcall.stable import classes, stable_pairs
from roadcall.tellers import paper_of_beat, paper_of_call, paper_of_pair
from roadcall.waiting import mean_wait
from roadcall.ways import parts
from roadcall.weights import weights
from things import (CERNY, LONG, LOOP, LOOP3, NINE, NINE3, NO_STABLE6, OTHERS, PRISM, ROUND6, TURN, beat_of, deep,
                    is_whole_net, pairs_of, some_nets, walk)

PLAIN = ("net", "number", "signings", "parts", "beat", "weights", "stable", "classes", "wait", "least", "partings")
TWO_HUNDRED_AND_ONE = ((6, 3), (1, 5), (2, 1), (0, 6), (5, 4), (4, 6), (3, 0), (8, 4), (1, 2))


def desk_of(net):
    return Desk(show_net(net))


def said(desk, row):
    """The answer to a row, or the kind of the error with which it is refused."""
    try:
        return desk.say(row)
    except RoadError as error:
        return type(error)


def asked(desk, rows):
    return [said(desk, row) for row in rows]


def put(net, place, at, goal):
    row = net[place][:at] + (goal,) + net[place][at + 1:]
    return net[:place] + (row,) + net[place + 1:]


def swap(net, place, one, other):
    row = list(net[place])
    row[one], row[other] = row[other], row[one]
    return net[:place] + (tuple(row),) + net[place + 1:]


def sets(things):
    return " ".join("".join(map(str, places)) for places in things) or "none"


def written(word):
    return "never" if word is None else word or "-"


def questions(net):
    """Many rows that ask, of all kinds."""
    signs, last = "abc"[:len(net[0])], len(net) - 1
    whole = "".join(str(place) for place in range(len(net)))
    rows = list(PLAIN)
    rows += [f"rings {sign}" for sign in signs]
    rows += [f"led {place} {word}" for place in (0, last) for word in ("-", "a", "b", "abba", signs * 3)]
    rows += [f"image {places} {word}" for places in (whole, "0", str(last)) for word in ("-", "a", "bab")]
    rows += [f"pair {one} {other}" for one, other in pairs_of(net)]
    rows += [f"shortest {places}" for places in dict.fromkeys((whole, "0", str(last), whole[:2], whole[1:] or "0"))]
    rows += [f"callers {m}" for m in (0, 1, 7, 60)]
    rows += ["look beat 1 " + "0" * len(net), "look never 01", f"look call {show_net(net).replace(' ', ',')} ab 1"]
    return rows


class Opened(unittest.TestCase):
    def test_keeps_the_net(self):
        for net in some_nets(times=2):
            self.assertEqual(Desk(show_net(net)).say("net"), show_net(net))

    def test_say_is_its_own(self):
        self.assertIn("say", vars(Desk))

    def test_no_text(self):
        wrong = [thing for thing in OTHERS if thing != "01 10"] + [
            "", " ", "12 20 01 ", " 12 20 01", "12  20 01", "12 20 01\n", "\n12 20 01", "12\n20 01", "12,20,01", "19 00",
            "0", "00 000", " ".join(["00"] * 10), CERNY, [CERNY], ["00"], None, 0, LONG, deep(list), "net"]
        for thing in wrong:
            with self.assertRaises(NoText):
                Desk(thing)

    def test_no_net(self):
        for text in ("01", "11", "88", "12 20", "00 02", "888", "012 000"):
            with self.assertRaises(NoNet):
                Desk(text)


class Asked(unittest.TestCase):
    def nets(self):
        return some_nets(seed=9, times=2) + [CERNY, PRISM, NO_STABLE6, TWO_HUNDRED_AND_ONE]

    def check(self, net, row, tell, errors=()):
        """The answer is what is told, or what is refused is refused."""
        try:
            want = tell()
        except errors as error:
            want = type(error)
        got = said(desk_of(net), row)
        self.assertEqual(got, want, (net, row))
        return want

    def test_net(self):
        self.assertEqual(Desk("12 20 01").say("net"), "12 20 01")
        self.assertEqual(Desk("000").say("net"), "000")

    def test_number_and_signings(self):
        for net in self.nets():
            self.check(net, "number", lambda: str(number_of(net)))
            self.check(net, "signings", lambda: str(signings(net)))
        self.assertEqual(asked(desk_of(CERNY), ["number", "signings"]), ["1", "8"])

    def test_parts(self):
        for net in self.nets():
            self.check(net, "parts", lambda: sets(parts(net)))
        self.assertEqual(Desk("33 41 20 00 12").say("parts"), "03 14 2")
        self.assertEqual(Desk("00").say("parts"), "0")

    def test_beat(self):
        met = set()
        for net in self.nets():
            met.add(type(self.check(net, "beat", lambda: f"{beat(net)[0]} {''.join(map(str, beat(net)[1]))}", NoWhole)))
        self.assertEqual(len(met), 2)
        self.assertEqual(desk_of(ROUND6).say("beat"), "4 011223")
        self.assertEqual(desk_of(LOOP).say("beat"), "1 0")

    def test_weights(self):
        for net in self.nets():
            self.check(net, "weights", lambda: " ".join(map(str, weights(net))), NoWhole)
        self.assertEqual(desk_of(CERNY).say("weights"), "1 2 2 2")
        # Numbers of several figures stay apart.
        self.assertEqual(desk_of(NINE).say("weights"), " ".join(str(weight) for weight in weights(NINE)))
        self.assertTrue(max(weights(NINE)) > 9)

    def test_led_and_image(self):
        for net in self.nets():
            desk = desk_of(net)
            for word in ("", "a", "b", "ba", "abbab"):
                for place in range(len(net)):
                    self.assertEqual(desk.say(f"led {place} {word or '-'}"), str(walk(net, place, word)))
                for places in ((0,), tuple(range(len(net))), tuple(range(0, len(net), 2))):
                    goals = sorted({walk(net, place, word) for place in places})
                    row = f"image {''.join(map(str, places))} {word or '-'}"
                    self.assertEqual(desk.say(row), "".join(map(str, goals)))
        self.assertEqual(desk_of(CERNY).say("image 23 ab"), "03")
        self.assertEqual(desk_of(NINE).say("led 0 " + "a" * 2000), "2")

    def test_pair(self):
        met = set()
        for net in self.nets():
            for one, other in pairs_of(net):
                met.add(self.check(net, f"pair {one} {other}", lambda: written(call_of(net, (one, other)))) == "never")
        self.assertEqual(len(met), 2)
        self.assertEqual(desk_of(CERNY).say("pair 0 2"), "abbba")
        self.assertEqual(desk_of(TURN).say("pair 0 1"), "never")

    def test_stable_and_classes(self):
        for net in self.nets():
            self.check(net, "stable", lambda: sets(stable_pairs(net)))
            self.check(net, "classes", lambda: sets(classes(net)))
        self.assertEqual(asked(desk_of(ROUND6), ["stable", "classes"]), ["12 34", "0 12 34 5"])
        # Nothing to be told.
        self.assertEqual(asked(desk_of(TURN), ["stable", "classes"]), ["none", "0 1"])
        self.assertEqual(desk_of(LOOP).say("stable"), "none")

    def test_rings(self):
        for net in self.nets():
            for sign in "abc"[:len(net[0])]:
                self.check(net, f"rings {sign}", lambda: sets(rings(net, sign)))
        self.assertEqual(desk_of(CERNY).say("rings a"), "1 2 3")
        # In the order in which the sign leads, not sorted.
        self.assertEqual(Desk("20 01 12").say("rings a"), "021")

    def test_shortest(self):
        for net in self.nets():
            for places in ((0,), tuple(range(len(net))), tuple(range(0, len(net), 2))):
                self.check(net, f"shortest {''.join(map(str, places))}", lambda: written(shortest(net, places)))
        self.assertEqual(asked(desk_of(CERNY), ["shortest 0123", "shortest 2"]), ["abbbabbba", "-"])
        self.assertEqual(desk_of(TURN).say("shortest 01"), "never")

    def test_callers(self):
        for net in self.nets():
            for m in (0, 1, 5, 60):
                self.check(net, f"callers {m}", lambda: " ".join(map(str, counted(net, m))))
        self.assertEqual(desk_of(LOOP).say("callers 60"), str(2 ** 60))
        self.assertEqual(desk_of(CERNY).say("callers 10"), "7 553 463 1")

    def test_wait(self):
        met = set()
        for net in self.nets():
            met.add(self.check(net, "wait", lambda: "{}/{}".format(*mean_wait(net)), (NoCall, TooMany)))
        self.assertTrue({NoCall, TooMany} < met)
        self.assertEqual([said(desk_of(net), "wait") for net in (LOOP, CERNY, ((0, 0, 0), (0, 0, 1)))],
                         ["0/1", "50/1", "3/2"])

    def test_least_and_partings(self):
        for net in self.nets():
            self.check(net, "least", lambda: sets(least_images(net)))
            self.check(net, "partings", lambda: " ".join(
                ",".join("".join(map(str, part)) for part in parting) for parting in least_partings(net)), TooMany)
        self.assertEqual(asked(Desk("12 00 00"), ["least", "partings"]), ["01 02", "0,12"])
        self.assertEqual(Desk("00 11 01").say("partings"), "0,12 02,1")
        self.assertIs(said(desk_of(TWO_HUNDRED_AND_ONE), "partings"), TooMany)

    def test_look(self):
        for net in self.nets():
            papers = [paper_of_pair(net, pair) for pair in pairs_of(net)[:3]]
            if is_whole_net(net):
                papers += [paper_of_call(net), paper_of_beat(net)]
            for paper in papers:
                if paper is not None:
                    self.assertEqual(desk_of(net).say("look " + show_paper(paper)), "yes")

    def test_look_no(self):
        for text, want in (("call 11,12,23,30 abbbabbba 1", "yes"), ("call 11,12,23,03 ab 2", "no 3"),
                           ("call 11,12,23,31 ab 3", "no 1"), ("call 88 ab 3", "no 1"), ("call 11,12,23,30 abc 1", "no 2"),
                           ("call 11,12,23,30 - 4", "yes"), ("beat 0 0000", "no 1"), ("beat 1 000", "no 2"),
                           ("beat 2 0101", "no 2"), (f"beat {LONG} 0000", "no 2"), ("never 01", "no 1"),
                           ("never 10,01", "no 1"), ("stable 01 a", "no 1"), ("stable 01,02,03,12,13,23 a", "no 2")):
            self.assertEqual(desk_of(CERNY).say("look " + text), want)
            try:
                told = look(CERNY, read_paper(text))
            except NoPaper as error:
                told = f"no {error.at}"
            self.assertEqual(told or "yes", want)

    def test_asking_is_no_deed(self):
        for net in (CERNY, ROUND6, LOOP3, NINE3):
            desk = desk_of(net)
            first = asked(desk, questions(net))
            self.assertEqual(asked(desk, questions(net)), first)
            self.assertIs(said(desk, "undo"), NoDeed)
            self.assertEqual(desk.say("net"), show_net(net))


class Deeds(unittest.TestCase):
    def test_exchange(self):
        desk = desk_of(CERNY)
        self.assertEqual(asked(desk, ["exchange 3 a b", "net"]), ["ok", "11 12 23 03"])
        self.assertEqual(asked(desk, ["exchange 3 a b", "net"]), ["ok", "11 12 23 30"])
        desk = Desk("120 201 012")
        self.assertEqual(asked(desk, ["exchange 0 a c", "exchange 1 b c", "exchange 2 a b", "net"]),
                         ["ok", "ok", "ok", "021 210 102"])

    def test_road(self):
        desk = desk_of(CERNY)
        self.assertEqual(asked(desk, ["road 3 a 0", "net", "road 0 b 0", "net"]),
                         ["ok", "11 12 23 00", "ok", "10 12 23 00"])
        desk = Desk("120 201 012")
        self.assertEqual(asked(desk, ["road 1 c 2", "net"]), ["ok", "120 202 012"])

    def test_sign(self):
        desk = desk_of(CERNY)
        for number in (0, 7, 3, 1):
            self.assertEqual(asked(desk, [f"sign {number}", "number", "net"]),
                             ["ok", str(number), show_net(signing(CERNY, number))])

    def test_call(self):
        for net in some_nets(times=2) + [PRISM, NO_STABLE6, TURN, LOOP]:
            desk = desk_of(net)
            if not is_whole_net(net):
                self.assertIs(said(desk, "call"), NoWhole)
                self.assertEqual(asked(desk, ["net", "undo"]), [show_net(net), NoDeed])
                continue
            word = read_word(desk.say("call"))
            kept = tuple(tuple(int(figure) for figure in row) for row in desk.say("net").split(" "))
            self.assertEqual([sorted(row) for row in kept], [sorted(row) for row in net])
            self.assertEqual(len({walk(kept, place, word) for place in range(len(net))}), beat_of(net))
            self.assertEqual(asked(desk, ["undo", "net", "undo"]), ["ok", show_net(net), NoDeed])

    def test_call_without_signs(self):
        self.assertEqual(desk_of(LOOP).say("call"), "-")

    def test_undo(self):
        for deed in ("exchange 3 a b", "road 3 a 0", "sign 5", "call", "exchange 0 a b", "road 3 a 3", "sign 1"):
            desk = desk_of(CERNY)
            said(desk, deed)
            self.assertEqual(asked(desk, ["undo", "net", "undo", "net"]), ["ok", show_net(CERNY), NoDeed, show_net(CERNY)])

    def test_deeds_that_change_nothing_are_deeds(self):
        desk = desk_of(CERNY)
        self.assertEqual(desk.say("road 0 a 2"), "ok")
        changed = desk.say("net")
        for deed in ("exchange 1 a b", "exchange 1 a b", "road 0 a 2", "sign " + desk.say("number")):
            self.assertEqual(desk.say(deed), "ok")
        self.assertEqual(desk.say("net"), changed)
        for _ in range(4):
            self.assertEqual(desk.say("undo"), "ok")
        self.assertEqual(desk.say("net"), changed)
        self.assertEqual(asked(desk, ["undo", "net", "undo"]), ["ok", show_net(CERNY), NoDeed])

    def test_what_was_taken_back_is_not_taken_back_again(self):
        desk = desk_of(CERNY)
        self.assertEqual(asked(desk, ["road 0 a 2", "road 0 a 3", "undo", "road 0 b 0", "net"]),
                         ["ok", "ok", "ok", "ok", "20 12 23 30"])
        self.assertEqual(asked(desk, ["undo", "net", "undo", "net", "undo"]),
                         ["ok", "21 12 23 30", "ok", "11 12 23 30", NoDeed])

    def test_no_deed(self):
        for net in (LOOP, CERNY, NINE3):
            self.assertEqual(asked(desk_of(net), ["undo", "undo", "net"]), [NoDeed, NoDeed, show_net(net)])


class Rows(unittest.TestCase):
    """Point 3: behind any row of deeds every answer is that of the net told anew."""

    def deed(self, net, chance):
        """A row that does something, and the net behind it, None where any signing may be."""
        many, width = len(net), len(net[0])
        place, at, goal = chance.randrange(many), chance.randrange(width), chance.randrange(many)
        kind = chance.choice(("exchange", "road", "road", "sign", "call"))
        if kind == "exchange":
            one, other = sorted(chance.sample(range(width), 2))
            return f"exchange {place} {'abc'[one]} {'abc'[other]}", swap(net, place, one, other)
        if kind == "road":
            return f"road {place} {'abc'[at]} {goal}", put(net, place, at, goal)
        if kind == "sign":
            number = chance.randrange(signings(net))
            return f"sign {number}", signing(net, number)
        return "call", None

    def behind(self, desk, net, row, want):
        """Say the row, and tell the net that the desk keeps then."""
        answer = said(desk, row)
        if want is not None:
            self.assertEqual(answer, "ok")
            return want
        if not is_whole_net(net):
            self.assertIs(answer, NoWhole)
            return net
        kept = tuple(tuple(int(figure) for figure in part) for part in desk.say("net").split(" "))
        self.assertEqual([sorted(part) for part in kept], [sorted(part) for part in net])
        word = "" if answer == "-" else answer
        self.assertEqual(len({walk(kept, place, word) for place in range(len(net))}), beat_of(net))
        return kept

    def test_every_answer_is_that_of_the_net_told_anew(self):
        chance = random.Random(11)
        for net in (LOOP, TURN, CERNY, PRISM, ROUND6, NINE, ((1, 2, 0), (2, 0, 0), (0, 1, 0)), NINE3):
            desk, stack = desk_of(net), [net]
            for _ in range(25):
                if chance.random() < 0.25:
                    self.assertEqual(said(desk, "undo"), NoDeed if len(stack) == 1 else "ok")
                    stack = stack[:-1] or stack
                else:
                    row, want = self.deed(stack[-1], chance)
                    kept = self.behind(desk, stack[-1], row, want)
                    if want is not None or is_whole_net(stack[-1]):
                        stack.append(kept)
                self.assertEqual(desk.say("net"), show_net(stack[-1]))
                rows = questions(stack[-1])
                rows = chance.sample(rows, min(14, len(rows)))
                self.assertEqual(asked(desk, rows), asked(desk_of(stack[-1]), rows))

    def test_a_hundred_deeds_taken_back(self):
        chance = random.Random(12)
        for net in (CERNY, ROUND6, NINE3, LOOP3):
            desk, stack = desk_of(net), [net]
            while len(stack) <= 100:
                row, want = self.deed(stack[-1], chance)
                if want is not None or is_whole_net(stack[-1]):
                    stack.append(self.behind(desk, stack[-1], row, want))
            for kept in reversed(stack[:-1]):
                self.assertEqual(asked(desk, ["undo", "net", "number"]), ["ok", show_net(kept), str(number_of(kept))])
            self.assertEqual(asked(desk, ["undo"] + questions(net)), [NoDeed] + asked(desk_of(net), questions(net)))

    def test_two_desks_know_nothing_of_one_another(self):
        one, other = desk_of(CERNY), desk_of(CERNY)
        self.assertEqual(one.say("road 0 a 3"), "ok")
        self.assertEqual(asked(other, ["net", "undo"]), [show_net(CERNY), NoDeed])
        self.assertEqual(other.say("exchange 2 a b"), "ok")
        self.assertEqual(asked(one, ["net", "undo", "net", "undo"]), ["31 12 23 30", "ok", show_net(CERNY), NoDeed])
        self.assertEqual(asked(other, ["net", "undo", "net"]), ["11 12 32 30", "ok", show_net(CERNY)])

    def test_what_is_refused_changes_nothing(self):
        refused = ["exchange 9 a b", "exchange 0 a c", "exchange 0 b a", "road 4 a 0", "road 0 c 0", "road 0 a 4", "sign 16",
                   f"sign {LONG}", "sign 01", "callers 61", "pair 1 0", "image 04 a", "led 0 c", "led 0 d", "look", "look ",
                   "", "nets", "undo 1", None, 0, ["net"], "net ", "net\n"]
        desk = desk_of(CERNY)
        desk.say("road 0 a 3")
        for row in refused:
            self.assertTrue(isinstance(said(desk, row), type), row)
            self.assertEqual(desk.say("net"), "31 12 23 30")
        self.assertEqual(asked(desk, ["undo", "net", "undo"]), ["ok", show_net(CERNY), NoDeed])
        desk = Desk("00 11")
        self.assertEqual(asked(desk, ["call", "beat", "weights", "wait", "sign 1", "undo", "net"]),
                         [NoWhole, NoWhole, NoWhole, NoCall, NoNumber, NoDeed, "00 11"])


if __name__ == "__main__":
    unittest.main()
