import unittest

from rulehall import errors
from rulehall.errors import (
    AlreadyThere, HallError, NoLevels, NoPlace, NoReason, NoRoom, NoText, NoThing, NotThere,
)

PLAIN = (NoThing, NoText, NoReason, AlreadyThere, NotThere, NoPlace, NoRoom)
REFUSALS = PLAIN + (NoLevels,)
RING = ("p", "q")


def made(refusal):
    return refusal(RING) if refusal is NoLevels else refusal("some words")


class Errors(unittest.TestCase):
    def test_the_whole_stands_below_value_error(self):
        self.assertEqual(HallError.__bases__, (ValueError,))
        with self.assertRaises(ValueError):
            raise HallError("some words")

    def test_each_stands_straight_below_the_whole(self):
        for refusal in REFUSALS:
            self.assertEqual(refusal.__bases__, (HallError,))

    def test_each_is_taken_as_the_whole_and_as_a_value_error(self):
        for refusal in REFUSALS:
            for wider in (HallError, ValueError):
                with self.assertRaises(wider):
                    raise made(refusal)

    def test_none_is_taken_as_another(self):
        for refusal in REFUSALS:
            for other in REFUSALS:
                self.assertEqual(isinstance(made(refusal), other), refusal is other)

    def test_they_can_be_made_without_words(self):
        for refusal in PLAIN:
            self.assertIsInstance(refusal(), HallError)

    def test_no_levels_keeps_its_ring(self):
        for ring in (("p",), RING, ("a", "b", "c")):
            with self.assertRaises(NoLevels) as taken:
                raise NoLevels(ring)
            self.assertEqual(taken.exception.ring, ring)

    def test_no_levels_asks_for_its_ring(self):
        self.assertRaises(TypeError, NoLevels)

    def test_the_names_are_where_the_interface_has_them(self):
        for refusal in REFUSALS + (HallError,):
            self.assertIs(getattr(errors, refusal.__name__), refusal)


if __name__ == "__main__":
    unittest.main()
