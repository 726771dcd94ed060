"""The refusals of the interface: which stands under which."""

import unittest

from beatwright import errors

REFUSALS = [
    "NoName", "Twice", "NoWidth", "NoWord", "TooMany", "Unknown", "Unlike",
    "Shut", "NoOrder", "Ring", "NoLine", "NoText",
]


class ErrorsTest(unittest.TestCase):
    def test_beat_error_stands_under_value_error(self):
        self.assertTrue(issubclass(errors.BeatError, ValueError))

    def test_each_refusal_stands_under_beat_error(self):
        self.assertEqual(len(set(REFUSALS)), 12)
        for name in REFUSALS:
            with self.subTest(name=name):
                refusal = getattr(errors, name)
                self.assertTrue(issubclass(refusal, errors.BeatError))
                self.assertIsNot(refusal, errors.BeatError)

    def test_no_refusal_stands_under_another(self):
        for name in REFUSALS:
            for other in REFUSALS:
                if name != other:
                    with self.subTest(name=name, other=other):
                        self.assertFalse(issubclass(getattr(errors, name), getattr(errors, other)))

    def test_each_is_raised_with_words_and_taken_as_a_beat_error(self):
        for name in REFUSALS:
            with self.subTest(name=name):
                with self.assertRaises(errors.BeatError):
                    raise getattr(errors, name)("words")


if __name__ == "__main__":
    unittest.main()
