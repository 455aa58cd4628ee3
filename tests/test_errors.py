"""The errors: what each is derived from, and what it keeps."""

import unittest

from pauseplay import errors

PLAIN = (
    "InvalidBound", "InvalidPoint", "InvalidLot", "InvalidArea", "InvalidField", "InvalidMachine",
    "InvalidStanding", "InvalidPlaces", "InvalidName", "InvalidText", "InvalidOperation",
)

BASES = dict(
    {name: errors.PlayError for name in PLAIN},
    PlayError=ValueError,
    ParseError=errors.PlayError,
    InvalidNumber=IndexError,
    UnknownName=KeyError,
    NothingToUndo=LookupError,
    TooMany=OverflowError,
    Refused=ArithmeticError,
)

KEPT = {
    "InvalidNumber": "given",
    "UnknownName": "asked",
    "ParseError": "spot",
    "NothingToUndo": "wanted",
    "TooMany": "limit",
    "Refused": "reason",
}

VALUES = (0, -1, 10 ** 5000, "text", "", None, True, (), ("move", 1, ("start",)), [1, 2], {"a": 1})


class ErrorsTest(unittest.TestCase):
    def test_each_class_is_derived_directly_from_its_base(self):
        for name, base in BASES.items():
            with self.subTest(name=name):
                self.assertEqual(getattr(errors, name).__bases__, (base,))

    def test_each_class_stands_in_the_module_of_errors(self):
        for name in BASES:
            with self.subTest(name=name):
                self.assertEqual(getattr(errors, name).__module__, "pauseplay.errors")
                self.assertEqual(getattr(errors, name).__name__, name)

    def test_there_are_no_other_classes(self):
        found = [name for name, value in vars(errors).items() if isinstance(value, type)]
        self.assertEqual(sorted(found), sorted(BASES))

    def test_six_keep_the_very_value(self):
        for name, attribute in KEPT.items():
            for value in VALUES:
                with self.subTest(name=name):
                    self.assertIs(getattr(getattr(errors, name)(value), attribute), value)

    def test_six_keep_the_value_when_raised(self):
        for name, attribute in KEPT.items():
            with self.subTest(name=name):
                with self.assertRaises(getattr(errors, name)) as caught:
                    raise getattr(errors, name)((1, 2))
                self.assertEqual(getattr(caught.exception, attribute), (1, 2))

    def test_six_need_their_value(self):
        for name in KEPT:
            with self.subTest(name=name):
                self.assertRaises(TypeError, getattr(errors, name))

    def test_the_others_take_a_message_or_any_one_value(self):
        for name in PLAIN + ("PlayError",):
            for value in VALUES:
                with self.subTest(name=name):
                    self.assertIsInstance(getattr(errors, name)(value), errors.PlayError)
            self.assertEqual(str(getattr(errors, name)("a message")), "a message")

    def test_only_errors_of_values_are_play_errors(self):
        for name in ("InvalidNumber", "UnknownName", "NothingToUndo", "TooMany", "Refused"):
            with self.subTest(name=name):
                self.assertFalse(issubclass(getattr(errors, name), errors.PlayError))


if __name__ == "__main__":
    unittest.main()
