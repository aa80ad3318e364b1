import unittest

from splitnames import errors

WITH_TEXT = [
    "InvalidCount", "InvalidSchedule", "InvalidOutcome", "InvalidCell", "InvalidName", "InvalidNames",
    "InvalidNumber", "InvalidProcess", "InvalidText", "InvalidCommand", "NoRun", "NothingToUndo",
]
WITH_VALUE = [("Impossible", "diagonal"), ("TooLarge", "limit")]


class ErrorClasses(unittest.TestCase):
    def test_base_stands_directly_under_value_error(self):
        self.assertEqual(errors.SplitError.__bases__, (ValueError,))

    def test_every_class_stands_directly_under_the_base(self):
        for name in WITH_TEXT + [name for name, _ in WITH_VALUE]:
            with self.subTest(name=name):
                self.assertEqual(getattr(errors, name).__bases__, (errors.SplitError,))

    def test_every_class_is_defined_in_this_file(self):
        for name in ["SplitError"] + WITH_TEXT + [name for name, _ in WITH_VALUE]:
            with self.subTest(name=name):
                self.assertEqual(getattr(errors, name).__module__, "splitnames.errors")
                self.assertEqual(getattr(errors, name).__name__, name)

    def test_text_is_kept(self):
        for name in ["SplitError"] + WITH_TEXT:
            for text in ["", "a text", "{0} 'x'"]:
                with self.subTest(name=name, text=text):
                    self.assertEqual(str(getattr(errors, name)(text)), text)

    def test_value_is_kept_in_the_named_field(self):
        for name, field in WITH_VALUE:
            for value in [0, 5, 10 ** 40, None, "text", [1, [2]], (), {"a": 1}]:
                with self.subTest(name=name, value=value):
                    error = getattr(errors, name)(value)
                    self.assertIs(getattr(error, field), value)
                    self.assertIsInstance(str(error), str)

    def test_each_is_caught_as_base_and_as_value_error(self):
        made = [getattr(errors, name)("text") for name in WITH_TEXT]
        made += [getattr(errors, name)(3) for name, _ in WITH_VALUE]
        for error in made:
            for caught in [errors.SplitError, ValueError]:
                with self.subTest(error=error, caught=caught):
                    with self.assertRaises(caught):
                        raise error


if __name__ == "__main__":
    unittest.main()
