"""What the whole program promises (point 3)."""

import itertools
import unittest

from roadcall.callers import counted, sets_met
from roadcall.desk import Desk
from roadcall.errors import NoPaper
from roadcall.least import least_images, least_rank
from roadcall.lifting import lifted
from roadcall.nets import is_word
from roadcall.nettexts import read_net, read_word, show_net, show_word
from roadcall.pairs import call_of, led_pairs
from roadcall.papers import look
from roadcall.papertexts import read_paper, show_paper
from roadcall.partings import least_partings
from roadcall.shortest import shortest
from roadcall.signings import same_roads, signings
from roadcall.stable import net_of_classes
from roadcall.tellers import paper_of_beat, paper_of_call, paper_of_pair
from roadcall.weights import weights
from roadcall.words import left
from things import (CERNY, LONG_CALLS, NO_STABLE6, NO_STABLE9, PRISM, ROUND6, all_on_rings, all_signings, beat_nets,
                    is_whole_net, least_left, pairs_of, small_nets, some_nets, whole_nets, words_up_to)


def whole():
    nets = [net for net in small_nets() if is_whole_net(net)]
    return nets + whole_nets(seed=21, times=4) + beat_nets(seed=21, times=2) + all_on_rings(seed=21) + [
        CERNY, PRISM, ROUND6, NO_STABLE6, NO_STABLE9]


def let_by(net, paper):
    try:
        look(net, paper)
    except NoPaper:
        return False
    return True


class Promise(unittest.TestCase):
    def test_a_call_to_as_many_places_as_the_beat_and_none_to_fewer(self):
        for net in whole():
            call, size = paper_of_call(net), paper_of_beat(net)
            self.assertTrue(let_by(net, call) and let_by(net, size))
            self.assertEqual(call[3], size[1])
            self.assertTrue(same_roads(net, call[1]))
            self.assertEqual(left(call[1], call[2]), size[1])
            for fewer in range(size[1]):
                self.assertFalse(let_by(net, call[:3] + (fewer,)))

    def test_no_word_of_any_signing_leaves_fewer(self):
        for net in whole():
            if signings(net) <= 24:
                size = paper_of_beat(net)[1]
                self.assertEqual(min(least_left(other) for other in all_signings(net)), size)

    def test_a_word_for_the_net_of_classes_is_lifted(self):
        for net in whole() + some_nets(seed=22, times=2):
            small = net_of_classes(net)
            for word in itertools.islice(words_up_to(net, 3), 12):
                longer = lifted(net, word)
                self.assertTrue(longer.startswith(word) and is_word(net, longer))
                self.assertLessEqual(left(net, longer), left(small, word))

    def test_two_places_are_called_together_or_shown_never_to_be(self):
        for net in some_nets(seed=23, times=2) + whole()[::5]:
            for pair in pairs_of(net):
                word = call_of(net, pair)
                if word is None:
                    paper = paper_of_pair(net, pair)
                    self.assertEqual(paper[0], "never")
                    self.assertTrue(let_by(net, paper))
                    self.assertEqual(list(paper[1]), led_pairs(net, pair))
                else:
                    self.assertEqual(word, shortest(net, pair))

    def test_how_many_words_leave_how_many_places(self):
        for net in some_nets(seed=24, times=1) + LONG_CALLS[:4]:
            least = least_rank(net)
            for m in range(7):
                told = counted(net, m)
                if len(net[0]) ** m <= 81:
                    words = [word for word in words_up_to(net, m) if len(word) == m]
                    for many in range(1, len(net) + 1):
                        self.assertEqual(told[many - 1], len([word for word in words if left(net, word) == many]))
                # None leaves fewer than the least rank.
                self.assertEqual(sum(told[:least - 1]), 0)
            self.assertGreater(counted(net, 60)[least - 1], 0)

    def test_least_images_and_partings(self):
        for net in whole() + some_nets(seed=25, times=3):
            images, partings = least_images(net), least_partings(net)
            self.assertEqual({len(places) for places in images}, {least_rank(net)})
            self.assertTrue(set(images) <= set(sets_met(net)))
            for places, parting in itertools.product(images, partings):
                self.assertTrue(all(len(set(part) & set(places)) == 1 for part in parting))
            if is_whole_net(net):
                weight = weights(net)
                self.assertEqual(len({sum(weight[place] for place in part) for parting in partings for part in parting}), 1)

    def test_what_is_written_is_read_again(self):
        for net in whole():
            self.assertEqual(read_net(show_net(net)), net)
            call = paper_of_call(net)
            self.assertEqual(read_word(show_word(call[1], call[2])), call[2])
            for paper in [call, paper_of_beat(net)] + [paper_of_pair(net, pair) for pair in pairs_of(net)[:4]]:
                if paper is not None:
                    self.assertEqual(read_paper(show_paper(paper)), paper)
                    self.assertEqual(Desk(show_net(net)).say("look " + show_paper(paper)), "yes")


if __name__ == "__main__":
    unittest.main()
