"""The refusals: their sorts and what they are made of."""

import unittest

from arrowtiers import errors
from arrowtiers.errors import DrawError, NoArrow, NoNet, Ringed

MADE_OF_A_TEXT = (
    "NoOrder", "NoText", "NoRows", "NoWidth", "NoRow", "NoNode", "TooMany", "NoNumber", "Twisted", "NoPlaces",
    "NoName",
)
MADE_OF_A_THING = (("NoNet", "fault", ("names", 13)), ("NoArrow", "arrow", 7), ("Ringed", "ring", [0, 2, 1]))


def one_of_each():
    made = [getattr(errors, name)("so it is") for name in MADE_OF_A_TEXT]
    return made + [getattr(errors, name)(thing) for name, value, thing in MADE_OF_A_THING]


class Sorts(unittest.TestCase):
    def test_there_are_fourteen(self):
        self.assertEqual(len({type(error) for error in one_of_each()}), 14)

    def test_draw_error_is_a_value_error(self):
        self.assertTrue(issubclass(DrawError, ValueError))

    def test_each_is_a_draw_error_and_a_value_error(self):
        for error in one_of_each():
            self.assertIsInstance(error, DrawError)
            self.assertIsInstance(error, ValueError)
            self.assertIsNot(type(error), DrawError)

    def test_none_is_another_one(self):
        for error in one_of_each():
            for other in one_of_each():
                self.assertEqual(isinstance(error, type(other)), type(error) is type(other))

    def test_each_is_caught_as_its_own_sort(self):
        for error in one_of_each():
            with self.assertRaises(type(error)) as caught:
                raise error
            self.assertIs(caught.exception, error)

    def test_each_is_caught_as_a_draw_error(self):
        for error in one_of_each():
            with self.assertRaises(DrawError) as caught:
                raise error
            self.assertIs(caught.exception, error)


class Values(unittest.TestCase):
    def test_made_of_a_text_and_shown_as_it(self):
        for name in MADE_OF_A_TEXT:
            self.assertEqual(str(getattr(errors, name)("so it is")), "so it is")

    def test_made_of_one_thing_and_having_it(self):
        for name, value, thing in MADE_OF_A_THING:
            self.assertEqual(getattr(getattr(errors, name)(thing), value), thing)

    def test_the_value_is_had_when_caught(self):
        with self.assertRaises(DrawError) as caught:
            raise NoNet(("arrow", 3))
        self.assertEqual(caught.exception.fault, ("arrow", 3))

    def test_nought_and_negative_numbers_are_kept(self):
        self.assertEqual(NoArrow(0).arrow, 0)
        self.assertEqual(NoArrow(-1).arrow, -1)

    def test_these_are_made_of_just_one_thing(self):
        for make in (NoNet, NoArrow, Ringed):
            self.assertRaises(TypeError, make)
            self.assertRaises(TypeError, make, 1, 2)

    def test_a_ring_handed_in_is_not_kept(self):
        ring = [0, 1]
        error = Ringed(ring)
        ring.append(2)
        self.assertEqual(error.ring, [0, 1])
        error.ring.clear()
        self.assertEqual(ring, [0, 1, 2])
        self.assertFalse(any(part is ring for part in error.args))

    def test_a_ring_may_be_a_tuple(self):
        self.assertEqual(Ringed((0, 1)).ring, (0, 1))


if __name__ == "__main__":
    unittest.main()
