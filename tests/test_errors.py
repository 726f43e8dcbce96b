"""The refusals: where each class stands, and the fields that it has."""

import unittest

from stopglass import errors

MADE = {
    "BadRow": (lambda: errors.BadRow(7), {"at": 7}),
    "NoFunction": (lambda: errors.NoFunction(), {}),
    "TwiceNamed": (lambda: errors.TwiceNamed("abc"), {"word": "abc"}),
    "BadNest": (lambda: errors.BadNest("f", 3), {"function": "f", "at": 3}),
    "BadCall": (lambda: errors.BadCall("g", 0), {"function": "g", "at": 0}),
    "NoName": (lambda: errors.NoName(), {}),
    "Ended": (lambda: errors.Ended(), {}),
    "TooLong": (lambda: errors.TooLong("h"), {"function": "h"}),
    "Gone": (lambda: errors.Gone(), {}),
    "NotBox": (lambda: errors.NotBox(), {}),
    "Shared": (lambda: errors.Shared([(0, "a"), (1, "b")]), {"others": [(0, "a"), (1, "b")]}),
    "BadBits": (lambda: errors.BadBits(), {}),
    "Untrue": (lambda: errors.Untrue(), {}),
}


class ErrorsTest(unittest.TestCase):
    def test_glass_error_is_a_value_error(self):
        self.assertTrue(issubclass(errors.GlassError, ValueError))
        self.assertEqual(errors.GlassError.__bases__, (ValueError,))

    def test_each_is_a_glass_error_and_none_of_the_others(self):
        for name, (make, _) in MADE.items():
            error = make()
            self.assertIs(type(error), getattr(errors, name))
            self.assertIsInstance(error, errors.GlassError)
            self.assertIsInstance(error, ValueError)
            for other in MADE:
                if other != name:
                    self.assertNotIsInstance(error, getattr(errors, other), (name, other))

    def test_none_of_pythons_narrower_errors_is_among_them(self):
        for name, (make, _) in MADE.items():
            self.assertNotIsInstance(make(), (LookupError, ArithmeticError, RuntimeError), name)

    def test_fields(self):
        for name, (make, fields) in MADE.items():
            error = make()
            self.assertEqual(vars(error), fields, name)
            for field, expected in fields.items():
                self.assertIs(type(getattr(error, field)), type(expected), (name, field))

    def test_fields_are_each_objects_own(self):
        one, other = errors.BadNest("f", 1), errors.BadNest("g", 2)
        self.assertEqual((one.function, one.at), ("f", 1))
        self.assertEqual((other.function, other.at), ("g", 2))

    def test_the_list_of_a_shared_is_the_askers_own(self):
        handed = [(0, "a")]
        error = errors.Shared(handed)
        handed.append((1, "b"))
        self.assertEqual(error.others, [(0, "a")])
        error.others.append((2, "c"))
        self.assertEqual(handed, [(0, "a"), (1, "b")])

    def test_each_is_taken_by_its_name_and_by_the_base(self):
        for name, (make, fields) in MADE.items():
            for taken in (getattr(errors, name), errors.GlassError, ValueError):
                with self.assertRaises(taken) as caught:
                    raise make()
                self.assertEqual(vars(caught.exception), fields)


if __name__ == "__main__":
    unittest.main()
