import unittest

from patchkin import errors

NAMES = ["BadName", "NameTaken", "NoStore", "NoPatch", "NoLine", "Unsettled", "Same", "Leant"]


class ErrorClasses(unittest.TestCase):
    def test_patch_error_stands_straight_beneath_value_error(self):
        self.assertEqual(errors.PatchError.__bases__, (ValueError,))

    def test_each_stands_straight_beneath_patch_error(self):
        for name in NAMES:
            with self.subTest(name):
                self.assertEqual(getattr(errors, name).__bases__, (errors.PatchError,))

    def test_none_stands_beneath_another(self):
        for name in NAMES:
            for other in NAMES:
                if name != other:
                    with self.subTest(name=name, other=other):
                        self.assertFalse(issubclass(getattr(errors, name), getattr(errors, other)))

    def test_each_bears_its_own_name(self):
        for name in NAMES + ["PatchError"]:
            with self.subTest(name):
                self.assertEqual(getattr(errors, name).__name__, name)

    def test_each_is_raised_with_words_and_taken_as_any_refusal(self):
        for name in NAMES:
            for above in (errors.PatchError, ValueError):
                with self.subTest(name=name, above=above):
                    with self.assertRaises(above) as caught:
                        raise getattr(errors, name)("some words")
                    self.assertEqual(str(caught.exception), "some words")


if __name__ == "__main__":
    unittest.main()
