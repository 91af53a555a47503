"""What words do to sets and to all places (points 11, 13)."""

import itertools
import math
import unittest

from roadcall.errors import NoNet, NoSet, NoWord
from roadcall.words import comes_round, image, left, map_of
from things import (CERNY, LONG, LOOP, NINE, NINE3, OTHERS, TURN, deep, refuses_no_nets, some_nets, walk,
                    words_up_to)

NO_SETS = OTHERS + [
    (1, 0), (0, 2, 1), (3, 2, 1, 0), (0, 0), (1, 1), (0, 1, 1), (4,), (0, 4), (-1, 0), (0, LONG), (True,), (0, True),
    (False, 1), [0], [0, 1], [], (), (None,), (0, None), ("0",), ("a",), "0", "01", 0, 1, (0, "1"), ((0,),), (0, (1,)),
    (0, [1]), ([0], [1]), (0, deep(list, 10)), ((0, 1), (2, 3)),
]
NO_WORDS = [thing for thing in OTHERS if thing != ""] + ["c", "abc", "b" * 2001, ["a"], ("a",), 0, "a\n", "-"]
LONG_WORD = "abbab" * 400


def all_sets(many):
    return [places for size in range(1, many + 1) for places in itertools.combinations(range(many), size)]


class Images(unittest.TestCase):
    def test_images_and_maps(self):
        for net in some_nets(times=2):
            many = len(net)
            for word in list(words_up_to(net, 3)) + ["ab" * 7, LONG_WORD[:2000 if many > 7 else 9]]:
                goals = [walk(net, place, word) for place in range(many)]
                self.assertEqual(map_of(net, word), tuple(goals))
                self.assertEqual(left(net, word), len(set(goals)))
                for places in [(0,), (many - 1,), tuple(range(many)), tuple(range(0, many, 2))]:
                    want = tuple(sorted({goals[place] for place in places}))
                    self.assertEqual(image(net, places, word), want)

    def test_all_sets(self):
        for word in words_up_to(CERNY, 5):
            for places in all_sets(4):
                told = image(CERNY, places, word)
                self.assertIsInstance(told, tuple)
                self.assertEqual(told, tuple(sorted({walk(CERNY, place, word) for place in places})))
                self.assertEqual(image(CERNY, told, ""), told)

    def test_without_signs(self):
        for net in some_nets():
            everywhere = tuple(range(len(net)))
            self.assertEqual(map_of(net, ""), everywhere)
            self.assertEqual(left(net, ""), len(net))
            self.assertEqual(image(net, everywhere, ""), everywhere)

    def test_by_hand(self):
        self.assertEqual(map_of(CERNY, "ab"), (2, 2, 3, 0))
        self.assertEqual(left(CERNY, "ab"), 3)
        self.assertEqual(image(CERNY, (0, 1), "ab"), (2,))
        self.assertEqual(image(CERNY, (2, 3), "ab"), (0, 3))
        self.assertEqual(left(CERNY, "abbbabbba"), 1)

    def test_rising_and_each_once(self):
        net = ((8, 0),) + tuple((9 - place - 1, 0) for place in range(1, 9))
        self.assertEqual(image(net, (0, 3, 8), "a"), (0, 5, 8))
        self.assertEqual(image(net, tuple(range(9)), "a"), tuple(range(9)))
        self.assertEqual(image(net, tuple(range(9)), "b"), (0,))

    def test_two_thousand_signs(self):
        self.assertEqual(map_of(NINE, "a" * 2000), tuple((place + 2000) % 9 for place in range(9)))
        self.assertEqual(left(NINE, "a" * 2000), 9)
        self.assertEqual(image(NINE3, tuple(range(9)), LONG_WORD),
                         tuple(sorted({walk(NINE3, place, LONG_WORD) for place in range(9)})))

    def test_no_set(self):
        for thing in NO_SETS:
            for word in ["", "ab"] + NO_WORDS:
                with self.assertRaises(NoSet):
                    image(CERNY, thing, word)

    def test_no_word(self):
        for thing in NO_WORDS:
            for places in all_sets(4):
                with self.assertRaises(NoWord):
                    image(CERNY, places, thing)
            for call in (left, map_of, comes_round):
                with self.assertRaises(NoWord):
                    call(CERNY, thing)

    def test_no_net_goes_first(self):
        for places, word in (((0,), "a"), ((), "a"), ((0,), "d"), (None, None), ([0], 7)):
            refuses_no_nets(self, NoNet, lambda net: image(net, places, word))
        for word in ("", "a", "d", None, LONG, []):
            for call in (left, map_of, comes_round):
                refuses_no_nets(self, NoNet, lambda net: call(net, word))


def net_of_map(goals):
    """A net in which the sign a has this map."""
    return tuple((goal, 0) for goal in goals)


class ComesRound(unittest.TestCase):
    def test_by_trying(self):
        for net in some_nets(times=3):
            for word in words_up_to(net, 2):
                once = [walk(net, place, word) for place in range(len(net))]
                maps = [tuple(range(len(net)))]
                for _ in range(60):
                    maps.append(tuple(once[place] for place in maps[-1]))
                want = min((ahead, times) for ahead in range(10) for times in range(1, 31)
                           if maps[ahead + times] == maps[ahead])
                self.assertEqual(comes_round(net, word), want)

    def test_without_signs(self):
        for net in some_nets():
            self.assertEqual(comes_round(net, ""), (0, 1))

    def test_at_once(self):
        self.assertEqual(comes_round(LOOP, "a"), (0, 1))
        self.assertEqual(comes_round(TURN, "a"), (0, 2))
        self.assertEqual(comes_round(TURN, "ab"), (0, 1))
        self.assertEqual(comes_round(CERNY, "b"), (0, 4))
        self.assertEqual(comes_round(NINE, "a"), (0, 9))

    def test_behind_a_tail(self):
        self.assertEqual(comes_round(CERNY, "a"), (1, 1))
        self.assertEqual(comes_round(net_of_map((0, 0, 1, 2, 3, 4, 5, 6, 7)), "a"), (8, 1))
        self.assertEqual(comes_round(net_of_map((1, 0, 0, 2, 3)), "a"), (3, 2))

    def test_rings_of_unlike_lengths(self):
        self.assertEqual(comes_round(net_of_map((1, 2, 3, 0, 5, 6, 7, 8, 4)), "a"), (0, 20))
        self.assertEqual(comes_round(net_of_map((1, 0, 3, 4, 2)), "a"), (0, 6))
        self.assertEqual(comes_round(net_of_map((1, 0, 3, 4, 2, 2, 5)), "a"), (2, 6))
        self.assertEqual(comes_round(net_of_map((1, 0, 3, 4, 5, 2)), "a"), (0, math.lcm(2, 4)))

    def test_a_word_of_two_thousand_signs(self):
        self.assertEqual(comes_round(NINE, "a" * 2000), (0, 9))
        self.assertEqual(comes_round(NINE, "a" * 1998), (0, 1))
        self.assertEqual(comes_round(NINE, "a" * 1998 + "b"), comes_round(NINE, "b"))


if __name__ == "__main__":
    unittest.main()
