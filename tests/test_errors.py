"""Section 2: the errors ([5])."""

import unittest

from kindshifts import errors
from tests.support import pool, shown, some_objects

WITH_FIELD = ["InvalidKind", "InvalidTable", "InvalidKinds", "InvalidMap", "InvalidRow", "InvalidGrouping",
              "InvalidBlock", "InvalidTriples", "InvalidRule", "InvalidDeed", "InvalidChain", "InvalidArrows",
              "InvalidLayers", "InvalidComb", "InvalidNumbers", "InvalidWord", "InvalidFour", "InvalidCount",
              "InvalidPlaces", "InvalidBonds", "InvalidChange", "InvalidChanges", "InvalidShelf", "InvalidSpot",
              "InvalidScript", "InvalidText", "InvalidLog", "Unlike", "Unsettled", "Apart", "Refused"]
WITHOUT_FIELD = ["NothingToUndo", "NothingToRedo"]


class Errors(unittest.TestCase):
    def test_all_classes_of_the_table_are_there(self):
        for name in ["KindError"] + WITH_FIELD + WITHOUT_FIELD:
            with self.subTest(name=name):
                found = getattr(errors, name)
                self.assertEqual((found.__name__, found.__module__), (name, "kindshifts.errors"))

    def test_kind_error_is_a_value_error(self):
        self.assertEqual(errors.KindError.__bases__, (ValueError,))
        self.assertIsInstance(errors.KindError(), ValueError)

    def test_none_is_derived_from_another_one(self):
        found = [getattr(errors, name) for name in WITH_FIELD + WITHOUT_FIELD]
        for one in found:
            self.assertTrue(issubclass(one, errors.KindError))
            for other in found:
                with self.subTest(one=one, other=other):
                    self.assertEqual(issubclass(one, other), one is other)

    def test_the_field_holds_any_object(self):
        for name in WITH_FIELD:
            made = getattr(errors, name)
            self.assertIsNone(made().value)
            for value in pool() + some_objects():
                before = shown(value)
                with self.subTest(name=name, value=value):
                    self.assertIs(made(value).value, value)
                    self.assertIs(made(value=value).value, value)
                    self.assertEqual(shown(value), before)

    def test_the_others_are_made_without_arguments(self):
        for name in ["KindError"] + WITHOUT_FIELD:
            with self.subTest(name=name):
                self.assertFalse(hasattr(getattr(errors, name)(), "value"))

    def test_all_can_be_caught_as_kind_errors(self):
        for name in WITH_FIELD + WITHOUT_FIELD:
            with self.subTest(name=name), self.assertRaises(errors.KindError):
                raise getattr(errors, name)()


if __name__ == "__main__":
    unittest.main()
