"""Point 1.1: the errors, and their place under TrunklandError (point 0.2)."""

import unittest

from trunkland.errors import ConfigError, LetterError, TrunklandError


class ErrorsTest(unittest.TestCase):
    def test_bases(self):
        self.assertEqual(TrunklandError.__bases__, (ValueError,))
        self.assertEqual(LetterError.__bases__, (TrunklandError,))
        self.assertEqual(ConfigError.__bases__, (TrunklandError,))

    def test_line_is_read_back(self):
        for line in [1, 2, 9, 400]:
            error = LetterError(line)
            self.assertEqual(error.line, line)
            self.assertIs(type(error.line), int)
            self.assertFalse(hasattr(error, "setting"))

    def test_setting_is_read_back(self):
        for setting in ["host", "most_calls", "unit"]:
            error = ConfigError(setting)
            self.assertEqual(error.setting, setting)
            self.assertFalse(hasattr(error, "line"))

    def test_each_object_has_its_own(self):
        first, second = LetterError(1), LetterError(2)
        self.assertEqual([first.line, second.line], [1, 2])
        first, second = ConfigError("host"), ConfigError("users")
        self.assertEqual([first.setting, second.setting], ["host", "users"])

    def test_arguments_by_name(self):
        self.assertEqual(LetterError(line=3).line, 3)
        self.assertEqual(ConfigError(setting="save").setting, "save")

    def test_raised_and_caught(self):
        for kind, value in [(LetterError, 4), (ConfigError, "first")]:
            for caught in [kind, TrunklandError, ValueError]:
                with self.assertRaises(caught):
                    raise kind(value)

    def test_one_is_not_the_other(self):
        self.assertNotIsInstance(LetterError(1), ConfigError)
        self.assertNotIsInstance(ConfigError("host"), LetterError)

    def test_message_tells_which(self):
        self.assertIn("17", str(LetterError(17)))
        self.assertIn("patience", str(ConfigError("patience")))
