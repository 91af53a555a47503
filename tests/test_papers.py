"""The looker at papers (point 29), and what it never lets by (points 3 and 30)."""

import copy
import itertools
import random
import unittest

from roadcall.errors import NoNet, NoPaper
from roadcall.papers import look
from things import (CERNY, LONG, LOOP, LOOP3, NINE3, NO_NETS, OTHERS, PRISM, ROUND6, TURN, all_nets, all_signings,
                    beat_of, broken_nets, call_table, deep, is_whole_net, pairs_of, pairs_reached, plain_stable,
                    refuses_no_nets, small_nets, some_nets, table_call, walk, words_up_to)

# A net of three ways: c calls all together at once.
THREE = ((1, 2, 0), (2, 0, 0), (0, 1, 0))
# 1 and 2 go the same ways, 0 and 1 never come together, nor do 0 and 2.
SOME = ((1, 2), (0, 0), (0, 0))
# Three places on rings of each sign, a pair of which is led to all three.
TURN3 = ((1, 0), (2, 2), (0, 1))

CALL = ("call", CERNY, "abbbabbba", 1)
BEAT = ("beat", 4, (0, 1, 1, 2, 2, 3))
NEVER = ("never", ((0, 1), (0, 2)))
STABLE = ("stable", ((1, 2), (3, 4)), ("aa", "b"))
GOOD = [(CERNY, CALL), (ROUND6, BEAT), (SOME, NEVER), (ROUND6, STABLE)]

NO_TUPLES = [None, True, False, 0, 1, LONG, "", "0", "01", "call", [], [0], [(0, 1)], [[0, 1]], deep(list)]


def fault(net, paper):
    """The value at with which a paper is refused, or None where it is let by."""
    try:
        told = look(net, paper)
    except NoPaper as error:
        assert type(error) is NoPaper and type(error.at) is int
        return error.at
    assert told is None
    return None


def put(paper, at, thing):
    return paper[:at] + (thing,) + paper[at + 1:]


def left_by(net, word):
    return len({walk(net, place, word) for place in range(len(net))})


def stable_paper(net, pair):
    far = call_table(net, 2)
    pairs = tuple(sorted(pairs_reached(net, pair)))
    return "stable", pairs, tuple(table_call(net, far, met) for met in pairs)


def good_papers(net, chance):
    """Papers of all kinds that the net has, built without the program."""
    other = chance.choice(all_signings(net)) if len(net) < 5 else net
    word = "".join(chance.choice("abc"[:len(net[0])]) for _ in range(chance.randrange(12)))
    told = [("call", other, word, left_by(other, word)), ("beat", 1, (0,) * len(net))]
    if is_whole_net(net):
        size = beat_of(net)
        numbers = {0: chance.randrange(size)}
        while len(numbers) < len(net):
            for place in list(numbers):
                for goal in net[place]:
                    numbers[goal] = (numbers[place] + 1) % size
        told.append(("beat", size, tuple(numbers[place] for place in range(len(net)))))
    far, stable = call_table(net, 2), plain_stable(net)
    never = [pair for pair in pairs_of(net) if frozenset(pair) not in far]
    if never:
        told.append(("never", tuple(never)))
        told.append(("never", tuple(sorted(pairs_reached(net, never[-1])))))
    if stable:
        told.append(stable_paper(net, stable[-1]))
        told.append(("stable", tuple(stable), tuple(table_call(net, far, pair) for pair in stable)))
    return told


class Look(unittest.TestCase):
    def test_each_of_the_four_is_let_by(self):
        for net, paper in GOOD:
            self.assertIsNone(look(net, paper))

    def test_papers_built_without_the_program(self):
        chance = random.Random(1)
        kinds = set()
        for net in small_nets() + some_nets(times=6) + [PRISM, TURN3, SOME, ROUND6]:
            for paper in good_papers(net, chance):
                self.assertIsNone(fault(net, paper), (net, paper))
                kinds.add((paper[0], len(net[0])))
        self.assertEqual(len(kinds), 8)

    def test_no_tuple_of_the_four(self):
        for net, paper in GOOD:
            wrong = [list(paper), paper[1:], paper[:-1], paper + (0,), paper + paper, (paper,), [paper], paper[0],
                     paper[:1], ()]
            for first in ("", "Call", "call ", " call", "calls", "cal", "none", "a", None, True, False, 0, 1, ["call"],
                          ("call",), (), [], deep(list)):
                wrong.append(put(paper, 0, first))
            for thing in wrong + OTHERS + NO_TUPLES:
                self.assertEqual(fault(net, thing), 0, thing)

    def test_the_text_of_another_paper(self):
        self.assertEqual(fault(CERNY, ("beat",) + CALL[1:]), 0)
        self.assertEqual(fault(CERNY, ("call",) + BEAT[1:]), 0)
        self.assertEqual(fault(SOME, ("never", ((0, 1), (0, 2)), ())), 0)
        self.assertEqual(fault(SOME, ("stable", ((0, 1), (0, 2)))), 0)
        # Beat and stable have as many things, so the first of these counts.
        self.assertEqual(fault(ROUND6, ("stable",) + BEAT[1:]), 1)
        self.assertEqual(fault(ROUND6, ("beat",) + STABLE[1:]), 1)

    def test_several_things_spoilt(self):
        # The first of them counts.
        for net, paper in GOOD:
            for first in range(len(paper)):
                spoilt = paper[:first] + (None,) * (len(paper) - first)
                self.assertEqual(fault(net, spoilt), first)
                for later in range(first + 1, len(paper)):
                    self.assertEqual(fault(net, put(put(paper, first, None), later, None)), first)

    def test_nothing_is_changed(self):
        for net, paper in GOOD:
            for at in range(len(paper)):
                for thing in ([], [0, 1], [[0, 1], [1, 0]], ([0, 1],), ("a", ["b"])):
                    spoilt = put(paper, at, thing)
                    kept = copy.deepcopy(spoilt)
                    fault(net, spoilt)
                    self.assertEqual(spoilt, kept)

    def test_no_net_goes_first(self):
        for paper in [CALL, BEAT, NEVER, STABLE, None, (), "call", ("call",), [], ("never", ())]:
            refuses_no_nets(self, NoNet, lambda net: look(net, paper))
        for thing in NO_NETS:
            with self.assertRaises(NoNet):
                look(thing, ("call", thing, "a", 1))


class Calls(unittest.TestCase):
    def test_any_signing_and_word(self):
        for net in (CERNY, PRISM, THREE, TURN3):
            for other in all_signings(net)[::5]:
                for word in words_up_to(net, 3):
                    many = left_by(other, word)
                    for told in range(-1, len(net) + 2):
                        self.assertEqual(fault(net, ("call", other, word, told)), None if told == many else 3)

    def test_no_signing(self):
        wrong = NO_NETS + NO_TUPLES + [
            list(CERNY), tuple(list(row) for row in CERNY), put(CERNY, 0, [1, 1]), CERNY[:3], CERNY + ((0, 0),), PRISM,
            put(CERNY, 0, (1, 0)), put(CERNY, 1, (1, 1)), put(CERNY, 0, (True, True)), put(CERNY, 0, (True, 1)),
            tuple(row + (0,) for row in CERNY), tuple(row[:1] for row in CERNY), put(CERNY, 3, (3, LONG)), LOOP, LOOP3,
        ]
        for thing in wrong:
            for word in ("abbbabbba", "", None, "d"):
                self.assertEqual(fault(CERNY, ("call", thing, word, 1)), 1, thing)

    def test_other_roads(self):
        # As many places and signs, and roads to the same places, but not as many to each.
        self.assertEqual(fault(((0, 0, 1), (0, 1, 1)), ("call", ((0, 1, 1), (0, 1, 1)), "", 2)), 1)
        self.assertEqual(fault(((0, 0, 1), (0, 1, 1)), ("call", ((1, 0, 0), (1, 0, 1)), "", 2)), None)

    def test_no_word(self):
        wrong = [thing for thing in OTHERS if thing != ""] + [
            "c", "abc", "d", "A", "a ", " a", "a b", "-", "a-", "a\n", ["a"], ("a",), 0, 1, True, None, "a" * 2001]
        for thing in wrong:
            for many in (1, 4, None, True):
                self.assertEqual(fault(CERNY, ("call", CERNY, thing, many)), 2, thing)
        self.assertEqual(fault(THREE, ("call", THREE, "c", 1)), None)

    def test_words_of_two_thousand_signs(self):
        for net, word, many in ((CERNY, "abbb" * 500, 1), (CERNY, "b" * 2000, 4), (TURN, "a" * 2000, 2),
                                (THREE, "abc" * 666 + "ab", 1)):
            self.assertEqual(len(word), 2000)
            self.assertEqual(left_by(net, word), many)
            self.assertEqual(fault(net, ("call", net, word, many)), None)
            self.assertEqual(fault(net, ("call", net, word, many + 1)), 3)
            self.assertEqual(fault(net, ("call", net, word + "a", many)), 2)

    def test_not_as_many_left(self):
        for thing in [0, 2, 3, 4, -1, LONG, -LONG, True, False, None, "1", "", "a", [1], (1,), [], (), deep(tuple)]:
            self.assertEqual(fault(CERNY, put(CALL, 3, thing)), 3, thing)
        # A truth is no number, though Python finds it alike.
        self.assertEqual(fault(LOOP, ("call", LOOP, "", 1)), None)
        self.assertEqual(fault(LOOP, ("call", LOOP, "", True)), 3)

    def test_it_is_looked_at_in_the_signing(self):
        # In the one signing a calls all together, in the other one it does not.
        net, other = ((0, 1), (0, 1)), ((0, 1), (1, 0))
        self.assertEqual(fault(net, ("call", net, "a", 1)), None)
        self.assertEqual(fault(net, ("call", other, "a", 1)), 3)
        self.assertEqual(fault(net, ("call", other, "a", 2)), None)
        self.assertEqual(fault(other, ("call", net, "a", 1)), None)


class Beats(unittest.TestCase):
    def test_any_numbers(self):
        for net in [LOOP, LOOP3, TURN, SOME, PRISM, TURN3] + all_nets(3, 2)[::5] + all_nets(2, 3):
            for size in range(1, len(net) + 2):
                for numbers in itertools.product(range(size), repeat=len(net)):
                    good = all(numbers[goal] == (numbers[place] + 1) % size
                               for place, row in enumerate(net) for goal in row)
                    good = good and set(numbers) == set(range(size))
                    self.assertEqual(fault(net, ("beat", size, numbers)), None if good else 2)

    def test_not_from_nought_on(self):
        # Point 29 does not ask that the place 0 has the number 0.
        self.assertEqual(fault(ROUND6, ("beat", 4, (3, 0, 0, 1, 1, 2))), None)
        self.assertEqual(fault(ROUND6, ("beat", 2, (0, 1, 1, 0, 0, 1))), None)
        self.assertEqual(fault(ROUND6, ("beat", 1, (0,) * 6)), None)

    def test_nets_that_do_not_hang_together(self):
        self.assertEqual(fault(((1, 1), (0, 0), (2, 2)), ("beat", 1, (0, 0, 0))), None)
        self.assertEqual(fault(((1, 1), (0, 0), (3, 3), (2, 2)), ("beat", 2, (0, 1, 1, 0))), None)
        self.assertEqual(fault(((1, 1), (0, 0), (2, 2)), ("beat", 2, (0, 1, 0))), 2)

    def test_no_beat(self):
        for thing in [0, -1, -4, -LONG, True, False, None, "4", "", [4], (4,), [], (), deep(list)]:
            for numbers in (BEAT[2], (0,) * 6, (), None):
                self.assertEqual(fault(ROUND6, ("beat", thing, numbers)), 1, thing)
        self.assertEqual(fault(LOOP, ("beat", 1, (0,))), None)
        self.assertEqual(fault(LOOP, ("beat", True, (0,))), 1)

    def test_another_beat(self):
        for thing in (1, 2, 3, 5, 6, 8, 10 ** 59, LONG):
            self.assertEqual(fault(ROUND6, put(BEAT, 1, thing)), 2, thing)

    def test_no_numbers(self):
        good = BEAT[2]
        wrong = NO_TUPLES + [
            (), good[:-1], good + (0,), good + good, list(good), put(good, 0, False), put(good, 1, True),
            put(good, 0, 4), put(good, 0, -4), put(good, 0, LONG), put(good, 0, None), put(good, 0, "0"),
            put(good, 0, (0,)), put(good, 0, [0]), tuple(str(number) for number in good), (0, 1, 2, 2, 3, 3),
            tuple(number + 4 for number in good), (0,) * 6, (good,), deep(tuple),
        ]
        for thing in wrong:
            self.assertEqual(fault(ROUND6, put(BEAT, 2, thing)), 2, thing)
        self.assertEqual(fault(LOOP, ("beat", 1, (False,))), 2)

    def test_numbers_not_all_met(self):
        for size in (2, 3, 9, LONG):
            self.assertEqual(fault(LOOP, ("beat", size, (0,))), 2)
            self.assertEqual(fault(TURN, ("beat", size * 2, (0, 1))), 2)
        self.assertEqual(fault(((1, 1), (2, 2), (0, 0)), ("beat", 4, (0, 1, 2))), 2)


NO_PAIRS = NO_TUPLES + OTHERS + [
    (), ((),), ((0,),), ((1, 2, 3),), (0, 1), ((1, 0),), ((2, 1),), ((0, 0),), ((1, 1),), ((0, 6),), ((-1, 0),),
    ((0, LONG),), ((False, True),), ((0, True),), ((False, 1),), ([0, 1],), [(0, 1)], (("0", "1"),), ("01",), (None,),
    ((0, None),), (((0, 1),),),
]


class Nevers(unittest.TestCase):
    def test_any_pairs(self):
        for net in [TURN, SOME, PRISM, TURN3, CERNY, THREE] + all_nets(3, 2)[::7]:
            pairs = pairs_of(net)
            for size in range(1, len(pairs) + 1):
                for some in itertools.combinations(pairs, size):
                    good = all(tuple(sorted(goals)) in some
                               for one, other in some for goals in zip(net[one], net[other]))
                    self.assertEqual(fault(net, ("never", some)), None if good else 1)

    def test_no_pairs(self):
        for net in (SOME, ROUND6):
            for thing in NO_PAIRS:
                self.assertEqual(fault(net, ("never", thing)), 1, thing)
        for net in (LOOP, LOOP3):
            for thing in NO_PAIRS + [((0, 1),)]:
                self.assertEqual(fault(net, ("never", thing)), 1, thing)

    def test_not_sorted_twice_turned_about(self):
        for pairs in (((0, 2), (0, 1)), ((0, 1), (0, 1), (0, 2)), ((0, 1), (0, 2), (0, 2)), ((1, 0), (0, 2)),
                      ((0, 1), (2, 0)), [(0, 1), (0, 2)], ([0, 1], [0, 2]), ((0, 1), [0, 2])):
            self.assertEqual(fault(SOME, ("never", pairs)), 1)

    def test_led_elsewhere_or_together(self):
        self.assertEqual(fault(SOME, ("never", ((0, 1),))), 1)
        self.assertEqual(fault(SOME, ("never", ((0, 1), (0, 2), (1, 2)))), 1)
        self.assertEqual(fault(CERNY, ("never", tuple(pairs_of(CERNY)))), 1)


class Stables(unittest.TestCase):
    def test_any_pairs(self):
        for net in [TURN, SOME, TURN3, THREE, CERNY, ROUND6] + all_nets(3, 2)[::7]:
            far = call_table(net, 2)
            pairs = [pair for pair in pairs_of(net) if frozenset(pair) in far]
            for size in range(1, len(pairs) + 1):
                for some in list(itertools.combinations(pairs, size))[:40]:
                    good = all(one == other or tuple(sorted((one, other))) in some
                               for pair in some for one, other in zip(net[pair[0]], net[pair[1]]))
                    paper = ("stable", some, tuple(table_call(net, far, pair) for pair in some))
                    self.assertEqual(fault(net, paper), None if good else 1)

    def test_no_pairs(self):
        for net in (SOME, ROUND6):
            for thing in NO_PAIRS:
                for words in (("a",), (), None):
                    self.assertEqual(fault(net, ("stable", thing, words)), 1, thing)

    def test_not_sorted_twice_turned_about(self):
        for pairs in (((3, 4), (1, 2)), ((1, 2), (1, 2)), ((1, 2), (3, 4), (3, 4)), ((2, 1), (3, 4)),
                      ((1, 2), (4, 3)), [(1, 2), (3, 4)], ([1, 2], [3, 4])):
            for words in (("aa", "aa"), ("aa", "aa", "aa")):
                self.assertEqual(fault(ROUND6, ("stable", pairs, words)), 1)

    def test_led_elsewhere(self):
        # b leads 1 and 2 to 4 and 3, which are not among the pairs.
        self.assertEqual(fault(ROUND6, ("stable", ((1, 2),), ("aa",))), 1)
        self.assertEqual(fault(ROUND6, ("stable", ((3, 4),), ("a",))), None)

    def test_no_words(self):
        wrong = NO_TUPLES + [
            (), ("aa",), ("aa", "b", "a"), ["aa", "b"], ("aa", None), ("aa", True), ("aa", 0), ("aa", ["b"]), ("aa", "c"),
            ("aa", "B"), ("aa", "-"), ("aa", "b\n"), ("aa", "b" * 2001), (("aa",), ("b",)), (("aa", "b"),), "aa", deep(tuple),
        ]
        for thing in wrong:
            self.assertEqual(fault(ROUND6, put(STABLE, 2, thing)), 2, thing)

    def test_a_word_that_does_not_call_its_pair_together(self):
        for words in (("a", "b"), ("aa", ""), ("", "b"), ("b", "aa"), ("", "")):
            self.assertEqual(fault(ROUND6, put(STABLE, 2, words)), 2)
        # Each word is for the pair at its place.
        self.assertEqual(fault(CERNY, stable_paper(CERNY, (0, 1))), None)
        pairs, words = stable_paper(CERNY, (0, 1))[1:]
        self.assertEqual(fault(CERNY, ("stable", pairs, words[::-1])), 2)

    def test_words_of_two_thousand_signs(self):
        self.assertEqual(fault(ROUND6, put(STABLE, 2, ("a" * 2000, "b" * 2000))), None)
        self.assertEqual(fault(ROUND6, put(STABLE, 2, ("a" * 2000, "b" * 2001))), 2)

    def test_a_pair_that_is_never_called_together_has_no_word(self):
        self.assertEqual(fault(SOME, ("stable", ((0, 1), (0, 2)), ("a", "a"))), 2)


class WhatPapersShow(unittest.TestCase):
    """Points 3 and 30: what is let by, whoever wrote it, is so."""

    def beats_let_by(self, net):
        return [size for size in range(1, len(net) + 2) for numbers in itertools.product(range(size), repeat=len(net))
                if fault(net, ("beat", size, numbers)) is None]

    def test_no_call_to_fewer_places_than_a_beat(self):
        nets = [TURN, SOME, PRISM, TURN3, ((1, 1), (2, 2), (0, 0)), ((1, 1), (0, 0), (3, 3), (2, 2))]
        for net in nets + all_nets(3, 2)[::23] + all_nets(2, 3)[::5]:
            most = max(self.beats_let_by(net))
            for other in all_signings(net):
                for word in words_up_to(net, 4):
                    for many in range(-1, most):
                        self.assertEqual(fault(net, ("call", other, word, many)), 3)

    def test_pairs_of_a_never_paper_are_never_called_together(self):
        for net in [TURN, SOME, PRISM, TURN3, CERNY] + all_nets(3, 2)[::7]:
            far = call_table(net, 2)
            pairs = pairs_of(net)
            for size in range(1, len(pairs) + 1):
                for some in itertools.combinations(pairs, size):
                    if fault(net, ("never", some)) is None:
                        self.assertTrue(all(frozenset(pair) not in far for pair in some))

    def test_pairs_of_a_stable_paper_are_stable(self):
        for net in [SOME, ROUND6, CERNY, THREE] + all_nets(3, 2)[::7] + broken_nets(times=2)[:20]:
            far, stable = call_table(net, 2), plain_stable(net)
            pairs = [pair for pair in pairs_of(net) if frozenset(pair) in far][:6]
            for size in range(1, len(pairs) + 1):
                for some in itertools.combinations(pairs, size):
                    words = tuple(table_call(net, far, pair) for pair in some)
                    if fault(net, ("stable", some, words)) is None:
                        self.assertTrue(all(pair in stable for pair in some))

    def test_nine_places(self):
        word = "abc" * 600
        many = left_by(NINE3, word)
        self.assertEqual(fault(NINE3, ("call", NINE3, word, many)), None)
        self.assertEqual(fault(NINE3, ("beat", 1, (0,) * 9)), None)
        self.assertEqual(fault(NINE3, ("beat", 1, (0,) * 8)), 2)
        self.assertEqual(fault(NINE3, stable_paper(NINE3, (7, 8))), None)


if __name__ == "__main__":
    unittest.main()
