"""How few places a word can leave, and which (point 27)."""

import unittest

from roadcall.errors import NoNet
from roadcall.least import least_images, least_rank, least_word
from roadcall.shortest import shortest
from roadcall.words import image, left
from things import (CERNY, LONG_CALLS, LOOP, LOOP3, NINE, NO_STABLE6, PRISM, ROUND6, TURN, all_nets, all_on_rings,
                    beat_nets, least_left, plain_images, refuses_no_nets, small_nets, some_nets,
                    tells_lists_of_its_own, walk, words_up_to)

RING9 = tuple(((place + 1) % 9, place) for place in range(9))


def nets():
    return small_nets() + some_nets(times=6) + beat_nets(times=1) + all_on_rings(times=1) + LONG_CALLS


def left_by(net, word):
    return len({walk(net, place, word) for place in range(len(net))})


class LeastRank(unittest.TestCase):
    def test_against_all_images(self):
        ranks = set()
        for net in nets():
            told = least_rank(net)
            self.assertIs(type(told), int)
            self.assertEqual(told, least_left(net))
            ranks.add((len(net), told))
        for many in range(2, 10):
            # One, as many as places, and between.
            self.assertIn((many, 1), ranks)
            self.assertIn((many, many), ranks)
        for some in ((3, 2), (4, 2), (5, 3), (6, 4), (8, 3), (9, 2), (9, 4), (9, 8)):
            self.assertIn(some, ranks)

    def test_by_hand(self):
        self.assertEqual([least_rank(net) for net in (LOOP, LOOP3, TURN, CERNY, PRISM, ROUND6, NO_STABLE6, RING9)],
                         [1, 1, 2, 1, 4, 4, 2, 9])

    def test_no_net(self):
        refuses_no_nets(self, NoNet, least_rank)


class LeastWord(unittest.TestCase):
    def test_against_trial(self):
        for net in small_nets() + all_nets(3, 3)[::397] + all_nets(4, 2)[::1999]:
            rank = least_left(net)
            want = next(word for word in words_up_to(net, 9) if left_by(net, word) == rank)
            self.assertEqual(least_word(net), want)

    def test_larger_nets_against_trial(self):
        for net in some_nets(times=3) + beat_nets(times=1):
            told, rank = least_word(net), least_left(net)
            self.assertEqual(left_by(net, told), rank)
            if len(told) <= 7:
                want = next(word for word in words_up_to(net, len(told)) if left_by(net, word) == rank)
                self.assertEqual(told, want)

    def test_where_all_can_be_called_together(self):
        for net in some_nets() + LONG_CALLS:
            if least_left(net) == 1:
                self.assertEqual(least_word(net), shortest(net, tuple(range(len(net)))))

    def test_no_signs_where_no_word_leaves_fewer(self):
        for net in [LOOP, LOOP3, TURN, PRISM, RING9] + all_on_rings():
            self.assertEqual(least_word(net), "")

    def test_the_first_of_several(self):
        self.assertEqual(least_word(((0, 0), (0, 0))), "a")
        self.assertEqual(least_word(((0, 1, 1), (1, 1, 1))), "b")
        # By length first: b alone goes ahead of aa.
        self.assertEqual(least_word(((1, 0), (2, 0), (2, 0))), "b")
        # Both ab and ba leave one place, a and b alone two.
        self.assertEqual([left(((0, 0), (0, 1), (2, 0)), word) for word in ("a", "b", "ab", "ba")], [2, 2, 1, 1])
        self.assertEqual(least_word(((0, 0), (0, 1), (2, 0))), "ab")
        self.assertEqual(least_word(CERNY), "abbbabbba")

    def test_by_hand(self):
        self.assertEqual(least_word(ROUND6), "aa")
        self.assertEqual(left(ROUND6, "aa"), 4)

    def test_no_net(self):
        refuses_no_nets(self, NoNet, least_word)


class LeastImages(unittest.TestCase):
    def test_against_all_images(self):
        for net in nets():
            told = least_images(net)
            self.assertIsInstance(told, list)
            found = plain_images(net)
            rank = min(len(places) for places in found)
            self.assertEqual(told, sorted(tuple(sorted(places)) for places in found if len(places) == rank))

    def test_each_sign_leads_each_to_one_of_them(self):
        for net in nets():
            told = least_images(net)
            for places in told:
                for sign in "abc"[:len(net[0])]:
                    self.assertIn(image(net, places, sign), told)

    def test_all_have_as_many_places(self):
        for net in nets():
            self.assertEqual({len(places) for places in least_images(net)}, {least_rank(net)})

    def test_by_hand(self):
        self.assertEqual(least_images(LOOP), [(0,)])
        self.assertEqual(least_images(TURN), [(0, 1)])
        self.assertEqual(least_images(CERNY), [(0,), (1,), (2,), (3,)])
        self.assertEqual(least_images(NINE), [(place,) for place in range(9)])
        self.assertEqual(least_images(((0, 0), (0, 1))), [(0,)])
        self.assertEqual(least_images(PRISM), [(0, 1, 2, 3)])
        self.assertEqual(least_images(((1, 2), (0, 0), (0, 0))), [(0, 1), (0, 2)])

    def test_lists_are_the_askers_own(self):
        for net in (LOOP, TURN, CERNY, ROUND6, NO_STABLE6):
            tells_lists_of_its_own(self, lambda: least_images(net))

    def test_no_net(self):
        refuses_no_nets(self, NoNet, least_images)


if __name__ == "__main__":
    unittest.main()
