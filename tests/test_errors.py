"""0.5: every refusal is an error class of its own straight under CanalError."""

import unittest

from lockhouse import errors

NAMES = [
    "Short", "Against", "NotNow", "Full", "NoBoat", "BadRow", "BadNumber",
    "Twice", "Unknown", "TooMany", "NotLinked", "TooWide", "TooDry", "Torn",
]


class Refusals(unittest.TestCase):
    def test_canal_error_stands_straight_under_value_error(self):
        self.assertEqual(errors.CanalError.__bases__, (ValueError,))

    def test_there_are_fourteen_refusals_and_no_more(self):
        held = [
            name for name, value in vars(errors).items()
            if isinstance(value, type) and issubclass(value, errors.CanalError) and name != "CanalError"
        ]
        self.assertEqual(sorted(held), sorted(NAMES))
        self.assertEqual(len(NAMES), 14)

    def test_each_stands_straight_under_canal_error(self):
        for name in NAMES:
            with self.subTest(name=name):
                self.assertEqual(getattr(errors, name).__bases__, (errors.CanalError,))
                self.assertEqual(getattr(errors, name).__name__, name)

    def test_each_is_caught_as_itself_as_canal_error_and_as_value_error(self):
        for name in NAMES:
            refusal = getattr(errors, name)
            for caught in (refusal, errors.CanalError, ValueError):
                with self.subTest(name=name, caught=caught.__name__):
                    with self.assertRaises(caught) as taken:
                        raise refusal("some words")
                    self.assertEqual(str(taken.exception), "some words")

    def test_none_is_one_of_the_others(self):
        for name in NAMES:
            made = getattr(errors, name)("some words")
            for other in NAMES:
                with self.subTest(name=name, other=other):
                    self.assertEqual(isinstance(made, getattr(errors, other)), name == other)


if __name__ == "__main__":
    unittest.main()
