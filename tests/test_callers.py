"""The sets that are met, and the words of a length that leave one place (point 25)."""

import collections
import itertools
import unittest

from roadcall.callers import caller, counted, sets_met
from roadcall.errors import NoNet, NoNumber
from roadcall.words import image
from things import (CERNY, LONG, LONG_CALLS, LOOP, LOOP3, NINE, NINE3, OTHERS, PRISM, ROUND6, TURN, all_nets, deep,
                    least_left, plain_images, refuses_no_nets, sign_images, small_nets, some_nets,
                    tells_lists_of_its_own, walk, words_up_to)

# By a everybody comes to 0, by the other signs nobody goes anywhere.
HOME = ((0, 0), (0, 1))
HOME3 = ((0, 0, 0), (0, 1, 1))

# What is the number of no word, whatever the net and the length.
NO_NUMBERS = [thing for thing in OTHERS if thing not in (0, 1, 9, 10) or isinstance(thing, bool)] + [
    True, False, -1, -2, -LONG, "0", "1", "a", "", None, [0], (0,), (0, 1), [], (), deep(list), deep(tuple),
]


def some_small_nets():
    return small_nets() + all_nets(3, 3)[::997] + all_nets(4, 2)[::3331] + [CERNY, PRISM]


def of_length(net, m):
    """All words of m signs, sorted."""
    return ["".join(signs) for signs in itertools.product("abc"[:len(net[0])], repeat=m)]


def left_by(net, word):
    """How many places a word leaves, sign by sign."""
    return len({walk(net, place, word) for place in range(len(net))})


def plain_sets(net):
    """Each image with its first word, by trial of all words by length, till all images are met."""
    many, found = len(plain_images(net)), {}
    for word in words_up_to(net, 12):
        places = tuple(sorted({walk(net, place, word) for place in range(len(net))}))
        found.setdefault(places, word)
        if len(found) == many:
            break
    return list(found)


def plain_count(net, m):
    told = collections.Counter(left_by(net, word) for word in of_length(net, m))
    return tuple(told[many] for many in range(1, len(net) + 1))


def count_by_sets(net, m):
    """The same for long words, set by set."""
    words = {frozenset(range(len(net))): 1}
    for _ in range(m):
        longer = collections.Counter()
        for places, many in words.items():
            for goal in sign_images(net, places):
                longer[goal] += many
        words = longer
    told = [0] * len(net)
    for places, many in words.items():
        told[len(places) - 1] += many
    return tuple(told)


class SetsMet(unittest.TestCase):
    def test_against_trial(self):
        for net in some_small_nets():
            self.assertEqual(sets_met(net), plain_sets(net))

    def test_all_places_first(self):
        for net in some_nets():
            told = sets_met(net)
            self.assertIsInstance(told, list)
            self.assertEqual(told[0], tuple(range(len(net))))

    def test_each_image_once(self):
        for net in some_nets(times=6) + LONG_CALLS:
            told = sets_met(net)
            self.assertEqual(len(told), len(set(told)))
            self.assertEqual({frozenset(places) for places in told}, plain_images(net))
            for places in told:
                self.assertIsInstance(places, tuple)
                self.assertEqual(places, tuple(sorted(set(places))))

    def test_in_the_order_of_first_words(self):
        for net in some_nets(seed=4, times=3) + LONG_CALLS:
            # For each length the first word of each image that is met at it.
            first, level = {}, {tuple(range(len(net))): ""}
            while level:
                first.update({places: word for places, word in level.items()})
                longer = {}
                for places, word in level.items():
                    for sign in "abc"[:len(net[0])]:
                        goal = image(net, places, sign)
                        if goal not in first:
                            longer[goal] = min(longer.get(goal, "d"), word + sign)
                level = longer
            self.assertEqual(sets_met(net), sorted(first, key=lambda places: (len(first[places]), first[places])))

    def test_one_place(self):
        self.assertEqual(sets_met(LOOP), [(0,)])
        self.assertEqual(sets_met(LOOP3), [(0,)])

    def test_by_hand(self):
        self.assertEqual(sets_met(TURN), [(0, 1)])
        self.assertEqual(sets_met(HOME), [(0, 1), (0,)])
        self.assertEqual(sets_met(((1, 0), (1, 0))), [(0, 1), (1,), (0,)])
        # By length first: b leads to (0, 2) ahead of aa, that leads to (0,).
        self.assertEqual(sets_met(((0, 2), (0, 0), (1, 0))), [(0, 1, 2), (0, 1), (0, 2), (0,), (2,), (1,)])

    def test_lists_are_the_askers_own(self):
        for net in (LOOP, TURN, CERNY, NINE3, ROUND6):
            tells_lists_of_its_own(self, lambda: sets_met(net))

    def test_no_net(self):
        refuses_no_nets(self, NoNet, sets_met)


class Counted(unittest.TestCase):
    def test_against_trial(self):
        for net in some_small_nets():
            for m in range(6 if len(net[0]) == 2 else 4):
                self.assertEqual(counted(net, m), plain_count(net, m))

    def test_larger_nets_against_trial(self):
        for net in some_nets(seed=2, times=1):
            for m in (1, 2, 5):
                self.assertEqual(counted(net, m), plain_count(net, m))

    def test_longer_words_of_a_net_that_is_long_to_call(self):
        for m in (8, 9, 10, 11):
            self.assertEqual(counted(CERNY, m), plain_count(CERNY, m))
        self.assertEqual([counted(CERNY, m)[0] for m in (8, 9)], [0, 1])

    def test_no_signs(self):
        for net in some_nets():
            self.assertEqual(counted(net, 0), (0,) * (len(net) - 1) + (1,))

    def test_one_sign(self):
        for net in some_nets():
            want = [0] * len(net)
            for at in range(len(net[0])):
                want[len({row[at] for row in net}) - 1] += 1
            self.assertEqual(counted(net, 1), tuple(want))

    def test_as_many_as_there_are_words(self):
        for net in some_nets(times=2) + [CERNY, PRISM]:
            for m in (0, 1, 2, 7, 30, 59, 60):
                told = counted(net, m)
                self.assertIsInstance(told, tuple)
                self.assertEqual(len(told), len(net))
                self.assertTrue(all(isinstance(many, int) and many >= 0 for many in told))
                self.assertEqual(sum(told), len(net[0]) ** m)

    def test_sixty_signs(self):
        for net in some_nets(seed=3, times=2) + LONG_CALLS:
            for m in (23, 60):
                self.assertEqual(counted(net, m), count_by_sets(net, m))

    def test_numbers_of_many_figures_by_hand(self):
        self.assertEqual(counted(LOOP, 60), (2 ** 60,))
        self.assertEqual(counted(LOOP3, 60), (3 ** 60,))
        self.assertEqual(counted(TURN, 60), (0, 2 ** 60))
        self.assertEqual(counted(HOME, 60), (2 ** 60 - 1, 1))
        self.assertEqual(counted(HOME3, 60), (3 ** 60 - 2 ** 60, 2 ** 60))

    def test_no_net_goes_first(self):
        for m in (0, 1, 60):
            refuses_no_nets(self, NoNet, lambda net: counted(net, m))


class Caller(unittest.TestCase):
    def test_against_trial(self):
        for net in some_small_nets():
            for m in range(5 if len(net[0]) == 2 else 4):
                want = [word for word in of_length(net, m) if left_by(net, word) == 1]
                self.assertEqual([caller(net, m, number) for number in range(len(want))], want)
                with self.assertRaises(NoNumber):
                    caller(net, m, len(want))

    def test_larger_nets_against_trial(self):
        for net in [CERNY, NINE, ((0, 2, 1), (0, 0, 2), (0, 2, 2), (1, 2, 0))] + some_nets(seed=5, times=1):
            m = 10 if len(net[0]) == 2 else 6
            want = [word for word in of_length(net, m) if left_by(net, word) == 1]
            numbers = sorted(set(range(len(want))[::41]) | ({len(want) - 1} if want else set()))
            for number in numbers:
                self.assertEqual(caller(net, m, number), want[number])

    def test_words_rise_with_their_numbers(self):
        for net in some_nets(seed=6, times=1):
            for m in (7, 33, 60):
                many = counted(net, m)[0]
                numbers = sorted({number for number in (0, 1, 2, many // 3, many // 2, many // 2 + 1, many - 2, many - 1)
                                  if 0 <= number < many})
                words = [caller(net, m, number) for number in numbers]
                self.assertEqual(words, sorted(set(words)))
                for word in words:
                    self.assertEqual(len(word), m)
                    self.assertEqual(left_by(net, word), 1)

    def test_sixty_signs_by_hand(self):
        # Written with 0 and 1 in the stead of a and b, each word is its number.
        for number in (0, 1, 2, 3, 1000, 2 ** 59 - 1, 2 ** 59, 2 ** 60 - 3, 2 ** 60 - 2):
            word = caller(HOME, 60, number)
            self.assertEqual(len(word), 60)
            self.assertEqual(int(word.replace("a", "0").replace("b", "1"), 2), number)
        self.assertEqual(caller(LOOP3, 60, 3 ** 60 - 1), "c" * 60)
        self.assertEqual(caller(LOOP3, 60, 0), "a" * 60)
        self.assertEqual(caller(HOME3, 60, 0), "a" * 60)
        self.assertEqual(caller(HOME3, 60, 3 ** 60 - 2 ** 60 - 1), "c" * 59 + "a")

    def test_no_signs(self):
        self.assertEqual(caller(LOOP, 0, 0), "")
        self.assertEqual(caller(LOOP3, 0, 0), "")
        with self.assertRaises(NoNumber):
            caller(HOME, 0, 0)

    def test_one_word_alone(self):
        self.assertEqual(caller(CERNY, 9, 0), "abbbabbba")
        with self.assertRaises(NoNumber):
            caller(CERNY, 9, 1)

    def test_the_count_and_beyond(self):
        for net in (LOOP, LOOP3, HOME, HOME3, CERNY, NINE):
            for m in (0, 1, 2, 9, 60):
                many = counted(net, m)[0]
                for number in (many, many + 1, 2 * many + 1, many + 10 ** 50, LONG):
                    with self.assertRaises(NoNumber):
                        caller(net, m, number)

    def test_no_number(self):
        for net in (LOOP, LOOP3, HOME, CERNY, NINE3):
            for m in (0, 1, 9, 60):
                for thing in NO_NUMBERS:
                    with self.assertRaises(NoNumber):
                        caller(net, m, thing)

    def test_where_no_word_of_that_length_leaves_one(self):
        nets = [(CERNY, 8), (CERNY, 0), (TURN, 60), (PRISM, 60), (ROUND6, 60), (HOME, 0)]
        for net, m in nets:
            self.assertEqual(counted(net, m)[0], 0)
            for thing in [0, 1, 2, 9, LONG] + NO_NUMBERS:
                with self.assertRaises(NoNumber):
                    caller(net, m, thing)
        for net in some_nets(times=3):
            if least_left(net) > 1:
                with self.assertRaises(NoNumber):
                    caller(net, 40, 0)

    def test_no_net_goes_first(self):
        for number in (0, -1, LONG, True, None, "0", [], ()):
            for m in (0, 3, 60):
                refuses_no_nets(self, NoNet, lambda net: caller(net, m, number))


if __name__ == "__main__":
    unittest.main()
