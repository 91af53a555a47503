"""Where words lead, and what hangs together (points 5, 6)."""

import copy
import unittest

from roadcall.errors import NoNet, NoPlace, NoWord
from roadcall.ways import hangs_together, led, parts, way
from things import (CERNY, LONG, LOOP, NINE, NINE3, OTHERS, TURN, broken_nets, is_whole_net, reach,
                    refuses_no_nets, small_nets, some_nets, walk, whole_nets, words_up_to)

NO_PLACES = OTHERS + [4, 5, "a", [0], (0,)]
NO_WORDS = [thing for thing in OTHERS if thing != ""] + ["c", "abc", "A", "a ", "a" * 2001, ["a"], ("a",), 0]


class Led(unittest.TestCase):
    def test_no_signs(self):
        for net in some_nets():
            for place in range(len(net)):
                self.assertEqual(led(net, place, ""), place)

    def test_one_sign(self):
        for net in some_nets():
            for place, row in enumerate(net):
                for sign, goal in zip("abc", row):
                    self.assertEqual(led(net, place, sign), goal)

    def test_words(self):
        for net in some_nets(times=2):
            for word in words_up_to(net, 4):
                for place in range(len(net)):
                    self.assertEqual(led(net, place, word), walk(net, place, word))

    def test_signs_go_one_behind_the_other(self):
        self.assertEqual(led(CERNY, 0, "ab"), 2)
        self.assertEqual(led(CERNY, 0, "ba"), 1)

    def test_two_thousand_signs(self):
        self.assertEqual(led(NINE, 0, "a" * 2000), 2000 % 9)
        self.assertEqual(led(TURN, 1, "ab" * 1000), 1)
        word = "abcacb" * 333 + "ca"
        self.assertEqual(len(word), 2000)
        self.assertEqual(led(NINE3, 5, word), walk(NINE3, 5, word))

    def test_no_place(self):
        for thing in NO_PLACES:
            for word in ["", "ab"] + NO_WORDS:
                with self.assertRaises(NoPlace):
                    led(CERNY, thing, word)

    def test_no_word(self):
        for thing in NO_WORDS:
            for place in range(4):
                with self.assertRaises(NoWord):
                    led(CERNY, place, thing)

    def test_no_net_goes_first(self):
        for place, word in ((0, "a"), (-1, "a"), (0, "d"), (None, None), (LONG, [])):
            refuses_no_nets(self, NoNet, lambda net: led(net, place, word))


def first_words_by_length(net, start):
    """For each place the first of the shortest words, from all the places met at each length."""
    found, level = {}, {start: ""}
    for _ in range(len(net)):
        for place, word in level.items():
            found.setdefault(place, word)
        longer = {}
        for place, word in level.items():
            for sign, goal in zip("abc", net[place]):
                longer[goal] = min(longer.get(goal, "d"), word + sign)
        level = longer
    return found


class Way(unittest.TestCase):
    def test_small_nets(self):
        for net in small_nets():
            seen = {}
            for word in words_up_to(net, len(net) + 1):
                for start in range(len(net)):
                    seen.setdefault((start, walk(net, start, word)), word)
            for start in range(len(net)):
                for goal in range(len(net)):
                    self.assertEqual(way(net, start, goal), seen.get((start, goal)), (net, start, goal))

    def test_some_nets(self):
        for net in some_nets():
            for start in range(len(net)):
                want = first_words_by_length(net, start)
                for goal in range(len(net)):
                    self.assertEqual(way(net, start, goal), want.get(goal), (net, start, goal))

    def test_same_place(self):
        for net in some_nets():
            for place in range(len(net)):
                self.assertEqual(way(net, place, place), "")

    def test_first_of_several(self):
        self.assertEqual(way(((1, 2), (3, 3), (3, 3), (0, 0)), 0, 3), "aa")
        self.assertEqual(way(((1, 1), (1, 1)), 0, 1), "a")
        # A word that comes first, but is longer, is not told.
        self.assertEqual(way(((1, 2), (2, 2), (0, 0)), 0, 2), "b")

    def test_longest(self):
        net = tuple((min(place + 1, 8), place) for place in range(9))
        self.assertEqual(way(net, 0, 8), "a" * 8)
        self.assertIsNone(way(net, 8, 7))

    def test_none(self):
        self.assertIsNone(way(((0, 0), (1, 1)), 0, 1))
        for net in some_nets():
            table = reach(net)
            for start in range(len(net)):
                for goal in range(len(net)):
                    self.assertEqual(way(net, start, goal) is None, not table[start][goal])

    def test_no_place(self):
        for thing in NO_PLACES:
            for start, goal in ((thing, 0), (0, thing), (thing, thing)):
                with self.assertRaises(NoPlace):
                    way(CERNY, start, goal)

    def test_no_net_goes_first(self):
        for start, goal in ((0, 0), (-1, 0), (0, None), ([], "")):
            refuses_no_nets(self, NoNet, lambda net: way(net, start, goal))


class Parts(unittest.TestCase):
    def test_by_the_table(self):
        for net in some_nets() + small_nets():
            table, many = reach(net), range(len(net))
            want = []
            for place in many:
                part = [goal for goal in many if table[place][goal] and table[goal][place]]
                if part not in want:
                    want.append(part)
            self.assertEqual(parts(net), want)
            self.assertIs(hangs_together(net), len(want) == 1)

    def test_one_part(self):
        self.assertEqual(parts(LOOP), [[0]])
        self.assertEqual(parts(NINE), [list(range(9))])
        self.assertIs(hangs_together(NINE), True)

    def test_as_many_as_places(self):
        net = tuple((place, place) for place in range(9))
        self.assertEqual(parts(net), [[place] for place in range(9)])
        self.assertIs(hangs_together(net), False)
        self.assertEqual(parts(((1, 1), (2, 2), (2, 2))), [[0], [1], [2]])

    def test_between(self):
        net = ((3, 3), (4, 1), (2, 0), (0, 0), (1, 2))
        self.assertEqual(parts(net), [[0, 3], [1, 4], [2]])
        self.assertIs(hangs_together(net), False)

    def test_roads_one_way_are_no_part(self):
        self.assertEqual(parts(((0, 1), (1, 1))), [[0], [1]])
        self.assertIs(hangs_together(((0, 1), (1, 1))), False)

    def test_both_kinds_are_tested(self):
        self.assertGreater(len(whole_nets()), 50)
        self.assertGreater(len(broken_nets()), 50)
        self.assertTrue(all(is_whole_net(net) == hangs_together(net) for net in some_nets()))

    def test_lists_are_the_askers_own(self):
        for net in (NINE, ((0, 1), (1, 1)), LOOP):
            first = parts(net)
            kept = copy.deepcopy(first)
            second = parts(net)
            first[0].append(7)
            first.append([8])
            self.assertEqual(second, kept)
            self.assertEqual(parts(net), kept)

    def test_truths(self):
        for net in some_nets():
            self.assertIsInstance(hangs_together(net), bool)

    def test_no_net(self):
        refuses_no_nets(self, NoNet, parts)
        refuses_no_nets(self, NoNet, hangs_together)


if __name__ == "__main__":
    unittest.main()
