"""Point 8, and 1 for it (interface, chainsum/reckoning.py)."""

import unittest

from chainsum import reckoning
from chainsum.chains import fraction_of
from chainsum.errors import BadChain, BadWord, ChainError
from chainsum.reckoning import WORDS, reckoned
from tests.helper import (
    DEEDS, is_told_alone, lists_of_few, long_chains, no_chains_above_0, no_words, number_of, quotients_of,
    told_or_refused,
)

SHORT = [found for found in lists_of_few(range(0, 4), range(1, 5), 3) if is_told_alone(found) and found != [0]]


def come_to(word, one, other):
    """What two fractions (top, bottom) come to, by products and sums alone."""
    (a, b), (c, d) = one, other
    return {
        "plus": (a * d + c * b, b * d),
        "less": (a * d - c * b, b * d),
        "times": (a * c, b * d),
        "over": (a * d, b * c),
    }[word]


class Interface(unittest.TestCase):
    def test_the_words(self):
        self.assertEqual(WORDS, ("plus", "less", "times", "over"))
        self.assertIs(type(WORDS), tuple)
        self.assertEqual([type(word) for word in WORDS], [str] * 4)

    def test_the_function_is_defined_here_with_arguments_as_listed(self):
        self.assertEqual(reckoning.reckoned.__module__, "chainsum.reckoning")
        self.assertEqual(reckoned(other=[0, 2], word="plus", one=[3]), [3, 2])


class Reckoned(unittest.TestCase):
    def assert_reckoned(self, word, one, other):
        told = reckoned(word, one, other)
        self.assertIs(type(told), list)
        self.assertEqual({type(quotient) for quotient in told}, {int})
        self.assertTrue(is_told_alone(told) and min(told[1:], default=1) >= 1)
        top, bottom = come_to(word, fraction_of(one), fraction_of(other))
        told_top, told_bottom = fraction_of(told)
        self.assertEqual(told_top * bottom, top * told_bottom, (word, one, other))

    def test_one_of_each_word(self):
        self.assertEqual(reckoned("plus", [3, 7], [0, 7]), [3, 3, 2])
        self.assertEqual(reckoned("less", [3, 7], [0, 7]), [3])
        self.assertEqual(reckoned("times", [3, 7], [3, 2]), [11])
        self.assertEqual(reckoned("over", [3, 7], [2]), [1, 1, 1, 3])

    def test_the_other_is_taken_off_the_one(self):
        self.assertEqual(reckoned("less", [3], [0, 2]), [2, 2])
        self.assertEqual(reckoned("less", [0, 2], [3]), [-3, 2])
        self.assertEqual(reckoned("less", [1], [3]), [-2])
        self.assertEqual(reckoned("less", [0, 3], [0, 2]), [-1, 1, 5])

    def test_the_one_is_divided_by_the_other(self):
        self.assertEqual(reckoned("over", [3], [2]), [1, 2])
        self.assertEqual(reckoned("over", [2], [3]), [0, 1, 2])
        self.assertEqual(reckoned("over", [6], [3]), [2])

    def test_a_number_and_itself(self):
        for chain in SHORT + long_chains(firsts=(1, 2, 10 ** 29 + 1)):
            self.assertEqual(reckoned("less", chain, chain), [0])
            self.assertEqual(reckoned("over", chain, chain), [1])
            self.assertEqual(reckoned("plus", chain, chain), reckoned("times", [2], chain))

    def test_many_pairs_of_short_chains(self):
        for one in SHORT:
            for other in SHORT:
                for word in WORDS:
                    self.assert_reckoned(word, one, other)

    def test_the_chains_are_the_same_as_pythons_own_fractions_tell(self):
        for one in SHORT[::3]:
            for other in SHORT[::2]:
                for word in WORDS:
                    reached = DEEDS[word](number_of(one), number_of(other))
                    self.assertEqual(reckoned(word, one, other), quotients_of(reached))

    def test_numbers_of_thirty_quotients(self):
        found = long_chains(lengths=(29, 30, 31), firsts=(0, 1, 2, 3, 10 ** 29 + 1))
        for one in found:
            for other in found + [[1], [0, 10 ** 40]]:
                for word in WORDS:
                    self.assert_reckoned(word, one, other)

    def test_more_figures_raise_nothing(self):
        large = 10 ** 4500
        self.assertTrue(reckoned("plus", [large], [large]) == [2 * large])
        self.assertTrue(reckoned("less", [large], [large + 1]) == [-1])
        self.assertTrue(reckoned("times", [large], [0, large]) == [1])
        self.assertTrue(reckoned("over", [1], [large]) == [0, large])


class Refusals(unittest.TestCase):
    def test_no_word_is_refused_whatever_else_is_handed_in(self):
        for word in no_words():
            self.assertIs(told_or_refused(reckoned, word, [3], [0, 2]), BadWord)
            for thing in ([], [0], [-3], None, "plus", 3, (3,)):
                self.assertIs(told_or_refused(reckoned, word, thing, [3]), BadWord)
                self.assertIs(told_or_refused(reckoned, word, [3], thing), BadWord)

    def test_no_chain_of_a_number_above_0_is_refused(self):
        for word in WORDS:
            for thing in no_chains_above_0():
                self.assertIs(told_or_refused(reckoned, word, thing, [3]), BadChain)
                self.assertIs(told_or_refused(reckoned, word, [3], thing), BadChain)
                self.assertIs(told_or_refused(reckoned, word, thing, thing), BadChain)

    def test_refusals_are_of_the_kinds_of_all(self):
        for things in (("minus", [3], [3]), ("plus", [0], [3]), ("plus", [3], [0])):
            with self.assertRaises(ChainError) as caught:
                reckoned(*things)
            self.assertIsInstance(caught.exception, ValueError)
            self.assertIn(caught.exception.__class__, (BadWord, BadChain))


class TheAskersOwn(unittest.TestCase):
    def test_what_is_handed_in_is_as_it_was(self):
        for word in WORDS:
            for one, other in (([3, 7], [0, 2]), ([1], [1]), ([3, 1], [3]), ([3], [0]), ([], [-3, 7])):
                before = list(one), list(other)
                told_or_refused(reckoned, word, one, other)
                self.assertEqual((one, other), before)

    def test_what_is_told_may_be_changed(self):
        one = [3, 7]
        for word, right in (("plus", [6, 3, 2]), ("less", [0]), ("times", [9, 1, 7, 6]), ("over", [1])):
            told = reckoned(word, one, one)
            self.assertEqual(told, right)
            told.append(5)
            told[0] = -9
            self.assertEqual(reckoned(word, one, one), right)
            self.assertEqual(one, [3, 7])

    def test_what_was_handed_in_may_be_changed(self):
        one, other = [3, 7], [1]
        told = reckoned("times", one, other)
        one.clear()
        other.append(0)
        self.assertEqual(told, [3, 7])
        self.assertIs(told_or_refused(reckoned, "times", one, other), BadChain)


if __name__ == "__main__":
    unittest.main()
