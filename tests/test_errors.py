"""The refusals, all of the interface, and what point [2] says of their classes."""

import unittest

from evenblocks import errors

WITH_TEXT = ("NoField", "ByNought", "NoPlane", "NoPrime", "NoTriples", "NoSquare", "Unlike", "NoSize", "NoNet",
             "NoTurning", "NoBlock", "NoDays", "TooMany", "NoLine")
WITH_VALUE = (("NoPlan", "place", 5), ("NoPlan", "place", -1), ("NoText", "line", 1), ("NoName", "name", "abc"))
ALL = sorted(WITH_TEXT + ("NoPlan", "NoText", "NoName"))


class Errors(unittest.TestCase):
    def test_block_error_stands_straight_under_value_error(self):
        self.assertEqual(errors.BlockError.__bases__, (ValueError,))

    def test_each_refusal_stands_straight_under_block_error(self):
        for name in ALL:
            with self.subTest(name):
                self.assertEqual(getattr(errors, name).__bases__, (errors.BlockError,))

    def test_no_refusal_stands_under_another_one(self):
        for one in ALL:
            for other in ALL:
                if one != other:
                    with self.subTest(one=one, other=other):
                        self.assertFalse(issubclass(getattr(errors, one), getattr(errors, other)))

    def test_these_are_all_refusals(self):
        found = [name for name, value in vars(errors).items()
                 if isinstance(value, type) and issubclass(value, errors.BlockError)]
        self.assertEqual(sorted(found), sorted(ALL + ["BlockError"]))

    def test_those_with_a_text(self):
        for name in WITH_TEXT + ("BlockError",):
            with self.subTest(name):
                made = getattr(errors, name)("why")
                self.assertEqual(str(made), "why")
                self.assertIsInstance(made, errors.BlockError)
                self.assertIsInstance(made, ValueError)

    def test_those_with_a_value_have_it_from_the_start(self):
        for name, value_name, value in WITH_VALUE:
            with self.subTest(name):
                made = getattr(errors, name)(value)
                self.assertEqual(vars(made)[value_name], value)
                self.assertIsInstance(made, errors.BlockError)
                self.assertIsInstance(made, ValueError)

    def test_values_go_by_their_names_too(self):
        self.assertEqual(errors.NoPlan(place=3).place, 3)
        self.assertEqual(errors.NoText(line=4).line, 4)
        self.assertEqual(errors.NoName(name="b").name, "b")

    def test_two_refusals_keep_their_own_values(self):
        one, other = errors.NoPlan(1), errors.NoPlan(2)
        self.assertEqual((one.place, other.place), (1, 2))


if __name__ == "__main__":
    unittest.main()
