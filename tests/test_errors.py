"""The refusals (interface, chainsum/errors.py)."""

import unittest

from chainsum import errors
from chainsum.errors import BadChain, BadFraction, BadQuotient, BadWord, ChainError, Ended

KINDS = (BadChain, BadFraction, BadWord, BadQuotient, Ended)


class Refusals(unittest.TestCase):
    def test_any_refusal_is_a_value_error(self):
        self.assertEqual(ChainError.__bases__, (ValueError,))

    def test_each_kind_is_straight_under_chain_error(self):
        for kind in KINDS:
            self.assertEqual(kind.__bases__, (ChainError,))

    def test_no_kind_is_another_one(self):
        for kind in KINDS:
            self.assertEqual([other for other in KINDS if issubclass(other, kind)], [kind])

    def test_all_are_defined_under_their_own_names(self):
        for name in ("ChainError", "BadChain", "BadFraction", "BadWord", "BadQuotient", "Ended"):
            kind = getattr(errors, name)
            self.assertEqual(kind.__name__, name)
            self.assertEqual(kind.__module__, "chainsum.errors")

    def test_each_is_raised_with_a_text_and_caught_as_any_refusal(self):
        for kind in KINDS:
            with self.assertRaises(ChainError) as caught:
                raise kind("why")
            self.assertIs(caught.exception.__class__, kind)
            self.assertEqual(str(caught.exception), "why")


if __name__ == "__main__":
    unittest.main()
