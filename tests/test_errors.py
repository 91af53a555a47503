"""The refusals: the interface's section on roadcall/errors.py."""

import unittest

from roadcall import errors

NAMES = ["NoNet", "NoPlace", "NoSign", "NoWord", "NoWhole", "NoNumber", "NoKin", "NoSet", "NoPair",
         "NoStep", "NoCall", "TooMany", "NoPaper", "NoText", "NoRow", "NoDeed"]


class Errors(unittest.TestCase):
    def test_sixteen_straight_under_road_error(self):
        self.assertEqual(len(NAMES), 16)
        self.assertEqual(errors.RoadError.__bases__, (ValueError,))
        for name in NAMES:
            self.assertEqual(getattr(errors, name).__bases__, (errors.RoadError,), name)

    def test_each_is_itself_alone(self):
        for name in NAMES:
            error = getattr(errors, name)("why")
            self.assertIsInstance(error, errors.RoadError)
            self.assertIsInstance(error, ValueError)
            for other in NAMES:
                self.assertEqual(isinstance(error, getattr(errors, other)), other == name, (name, other))

    def test_each_is_caught_as_itself(self):
        for name in NAMES:
            for kind in (getattr(errors, name), errors.RoadError, ValueError):
                with self.assertRaises(kind):
                    raise getattr(errors, name)("why")

    def test_the_value_at(self):
        for at in range(5):
            self.assertEqual(errors.NoPaper(at).at, at)
        with self.assertRaises(errors.NoPaper) as caught:
            raise errors.NoPaper(3)
        self.assertEqual(caught.exception.at, 3)

    def test_the_value_is_set_on_each(self):
        self.assertEqual(errors.NoPaper().at, 0)

    def test_two_no_papers_keep_their_own_values(self):
        one, other = errors.NoPaper(1), errors.NoPaper(2)
        self.assertEqual((one.at, other.at), (1, 2))


if __name__ == "__main__":
    unittest.main()
