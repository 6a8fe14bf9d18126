"""The refusals: what they are called and what stands under what."""

import unittest

from claimlayers import errors

KINDS = ("NoPlan", "NoDamage", "NoYear", "Known", "Unknown", "Closed", "NotClosed")


class Refusals(unittest.TestCase):
    def test_any_refusal_is_a_value_error(self):
        self.assertEqual(errors.ClaimError.__bases__, (ValueError,))

    def test_the_kinds_stand_side_by_side_under_claim_error(self):
        for name in KINDS:
            with self.subTest(name=name):
                self.assertEqual(getattr(errors, name).__bases__, (errors.ClaimError,))

    def test_each_kind_is_raised_and_caught_by_name(self):
        for name in KINDS:
            kind = getattr(errors, name)
            with self.subTest(name=name):
                with self.assertRaises(kind) as caught:
                    raise kind("why")
                self.assertEqual(type(caught.exception).__name__, name)
                self.assertEqual(str(caught.exception), "why")

    def test_they_are_defined_in_their_file(self):
        for name in ("ClaimError",) + KINDS:
            with self.subTest(name=name):
                self.assertEqual(getattr(errors, name).__module__, "claimlayers.errors")


if __name__ == "__main__":
    unittest.main()
