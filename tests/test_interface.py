"""The names and arguments of the interface, and NoNet first of all wherever a net is handed in (point 2)."""

import copy
import importlib
import inspect
import unittest

from roadcall.errors import NoNet
from things import CERNY, LONG, NO_NETS, deep

# Each function with the arguments that stand behind the net, all as they should be for CERNY.
WITH_NET = {
    "nets": {"signs_of": (), "is_word": ("ab",)},
    "ways": {"led": (0, "ab"), "way": (0, 1), "parts": (), "hangs_together": ()},
    "beats": {"beat": ()},
    "weights": {"weights": ()},
    "signings": {"same_roads": (CERNY,), "signings": (), "number_of": (), "signing": (0,)},
    "exchanges": {"exchanged": (0, "a", "b"), "exchanges": (CERNY,)},
    "words": {"image": ((0, 1), "ab"), "left": ("ab",), "map_of": ("ab",), "comes_round": ("ab",)},
    "maps": {"all_maps": ()},
    "pairs": {"call_of": ((0, 1),), "led_pairs": ((0, 1),), "never_called": ()},
    "stable": {"stable_pairs": (), "classes": (), "net_of_classes": ()},
    "lifting": {"lifted": ("ab",)},
    "rings": {"rings": ("a",), "heights": ("a",), "roots": ("a",), "top_pairs": ("a",)},
    "steps": {"steps": ()},
    "calling": {"called": ()},
    "counting": {"called_signings": ()},
    "shortest": {"shortest": ((0, 1),), "by_pairs": ()},
    "callers": {"sets_met": (), "counted": (3,), "caller": (9, 0)},
    "waiting": {"mean_wait": ()},
    "least": {"least_rank": (), "least_word": (), "least_images": ()},
    "partings": {"least_partings": ()},
    "papers": {"look": (("beat", 1, (0, 0, 0, 0)),)},
    "tellers": {"paper_of_call": (), "paper_of_beat": (), "paper_of_pair": ((0, 1),)},
    "nettexts": {"show_net": (), "show_word": ("ab",)},
}
WITHOUT_NET = {
    "nets": {"is_net": (CERNY,)},
    "nettexts": {"read_net": ("11 00",), "read_word": ("ab",)},
    "papertexts": {"show_paper": (("beat", 1, (0,)),), "read_paper": ("beat 1 0",)},
    "desk": {"Desk": ("11 00",)},
}
# Whatever is wrong besides; the length of counted words stays as it is, as nothing is refused of it.
WRONG = [None, True, -1, LONG, "", "d", "%", [], [0], (), (1, 0), deep(list)]


def named(module, name):
    return getattr(importlib.import_module("roadcall." + module), name)


def listed(table):
    return [(module, name, rest) for module, names in table.items() for name, rest in names.items()]


class Interface(unittest.TestCase):
    def test_arguments_by_their_places(self):
        for table, first in ((WITH_NET, (CERNY,)), (WITHOUT_NET, ())):
            for module, name, rest in listed(table):
                function = named(module, name)
                self.assertEqual(len(inspect.signature(function).parameters), len(first + rest), name)
                function(*(first + rest))

    def test_the_same_each_time(self):
        # Point 2: nothing hangs on chance, on a clock or on what was asked before; what may be any of several is told
        # alike, too, though it need not be.
        for module, name, rest in listed(WITH_NET):
            function = named(module, name)
            told = copy.deepcopy(function(CERNY, *rest))
            self.assertEqual(function(CERNY, *rest), told, name)

    def test_no_net_ahead_of_every_other_refusal(self):
        for module, name, rest in listed(WITH_NET):
            function = named(module, name)
            for thing in NO_NETS:
                for wrong in WRONG:
                    spoilt = tuple(wrong for _ in rest)
                    if name in ("counted", "caller"):
                        spoilt = (3,) + spoilt[1:]
                    with self.assertRaises(NoNet) as caught:
                        function(thing, *spoilt)
                    self.assertIs(type(caught.exception), NoNet)

    def test_a_second_net_that_is_none(self):
        for name in ("same_roads", "exchanges"):
            function = named("signings" if name == "same_roads" else "exchanges", name)
            for thing in NO_NETS:
                with self.assertRaises(NoNet):
                    function(CERNY, thing)

    def test_what_is_handed_in_is_not_changed(self):
        for module, name, rest in listed(WITH_NET):
            function = named(module, name)
            for at in range(len(rest)):
                if name in ("counted", "caller") and at == 0:
                    continue
                for wrong in ([], [0, 1], [[0], [1]], [deep(list, 10)]):
                    kept = copy.deepcopy(wrong)
                    try:
                        function(CERNY, *(rest[:at] + (wrong,) + rest[at + 1:]))
                    except ValueError:
                        pass
                    self.assertEqual(wrong, kept)


if __name__ == "__main__":
    unittest.main()
