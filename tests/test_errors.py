"""The classes of cotide.errors and the values that they bear."""

import unittest

from cotide import errors

REFUSALS = (
    "BadClock", "BadHour", "BadChart", "BadSquare", "BadRing", "BadBreaks", "BadPrices", "NoFill", "Unlike",
    "BadName", "Taken", "Full", "NoChart", "BadDay", "BadDeed", "NothingLeft", "Knotted", "BadText",
)
BEARERS = {"Knotted": "many", "BadText": "row", "NoEntry": "many"}
FAR = 10 ** 40 - 1


class ErrorClasses(unittest.TestCase):
    def test_root_is_straight_under_value_error(self):
        self.assertEqual(errors.TideError.__bases__, (ValueError,))

    def test_each_refusal_is_straight_under_the_root(self):
        for name in REFUSALS:
            self.assertEqual(getattr(errors, name).__bases__, (errors.TideError,), name)

    def test_no_refusal_is_under_another(self):
        classes = [getattr(errors, name) for name in REFUSALS] + [errors.NoEntry]
        self.assertEqual(len(set(classes)), len(REFUSALS) + 1)
        for one in classes:
            for other in classes:
                self.assertEqual(issubclass(one, other), one is other, (one, other))

    def test_no_entry_is_a_lookup_error_and_no_tide_error(self):
        self.assertEqual(errors.NoEntry.__bases__, (LookupError,))
        self.assertFalse(issubclass(errors.NoEntry, errors.TideError))
        self.assertFalse(issubclass(errors.NoEntry, ValueError))

    def test_all_are_defined_in_the_file(self):
        for name in REFUSALS + ("TideError", "NoEntry"):
            self.assertEqual(getattr(errors, name).__module__, "cotide.errors")
            self.assertEqual(getattr(errors, name).__name__, name)


class ErrorValues(unittest.TestCase):
    def test_values_are_borne_from_the_start(self):
        for name, value in BEARERS.items():
            for number in (0, 1, 7, 200, FAR):
                self.assertEqual(getattr(getattr(errors, name)(number), value), number)
                self.assertEqual(getattr(getattr(errors, name)(**{value: number}), value), number)

    def test_values_are_there_when_caught(self):
        for name, value in BEARERS.items():
            with self.assertRaises(getattr(errors, name)) as caught:
                raise getattr(errors, name)(3)
            self.assertEqual(getattr(caught.exception, value), 3)
            self.assertIn("3", str(caught.exception))

    def test_values_of_two_errors_are_their_own(self):
        first, second = errors.Knotted(1), errors.Knotted(2)
        self.assertEqual((first.many, second.many), (1, 2))

    def test_plain_refusals_bear_their_words(self):
        for name in REFUSALS:
            if name not in BEARERS:
                self.assertEqual(str(getattr(errors, name)("why")), "why")


if __name__ == "__main__":
    unittest.main()
