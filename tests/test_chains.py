"""Points 2, 3 and 4, and 1 for them (interface, chainsum/chains.py)."""

import unittest
from fractions import Fraction

from chainsum import chains
from chainsum.chains import chain_of, compared, fraction_of, is_begun, is_chain
from chainsum.errors import BadChain, BadFraction
from tests.helper import (
    Unruly, is_told_alone, lists_of_few, lists_of_neither, long_chains, no_lists, no_numbers, number_of, pair_of,
    told_or_refused,
)

CHAINS = [
    [3], [0], [-3], [1], [3, 7], [3, 7, 16], [0, 2], [-1, 2], [-3, 7, 16], [0, 1, 2], [1, 1, 1, 1, 2],
    [-10 ** 30, 10 ** 30, 2], [10 ** 4500], [3, 10 ** 4500],
]
NO_CHAINS_BUT_BEGUN = [[], [0, 1], [3, 1], [1, 1], [3, 7, 1], [3, 1, 1], [0, 1, 1], [10 ** 30, 1]]
CHAINS_NOT_BEGUN = [[-1], [-3], [-1, 2], [-3, 7, 16], [-10 ** 30, 2], [-10 ** 5000, 2]]


class Interface(unittest.TestCase):
    def test_each_function_is_defined_in_the_file_of_its_own(self):
        for name in ("is_chain", "is_begun", "fraction_of", "chain_of", "compared"):
            self.assertEqual(getattr(chains, name).__module__, "chainsum.chains")

    def test_arguments_have_the_names_that_are_listed(self):
        self.assertIs(is_chain(thing=[3]), True)
        self.assertIs(is_begun(thing=[3]), True)
        self.assertEqual(fraction_of(chain=[3, 7]), (22, 7))
        self.assertEqual(chain_of(bottom=7, top=22), [3, 7])
        self.assertEqual(compared(other=[3], one=[3, 7]), 1)


class IsChain(unittest.TestCase):
    def test_chains_are_chains(self):
        for quotients in CHAINS + CHAINS_NOT_BEGUN + long_chains():
            self.assertIs(is_chain(quotients), True)

    def test_one_quotient_of_1_is_a_chain_but_no_last_one_of_several(self):
        self.assertIs(is_chain([1]), True)
        for quotients in ([0, 1], [3, 1], [-3, 1], [1, 1], [3, 7, 1], [3, 1, 1], [-1, 2, 1]):
            self.assertIs(is_chain(quotients), False)

    def test_the_empty_list_is_none(self):
        self.assertIs(is_chain([]), False)

    def test_lists_with_a_wrong_quotient_are_none(self):
        for quotients in lists_of_neither() + NO_CHAINS_BUT_BEGUN:
            self.assertIs(is_chain(quotients), False)

    def test_anything_but_a_list_is_none(self):
        for thing in no_lists() + no_numbers():
            if type(thing) is not list:
                self.assertIs(is_chain(thing), False)

    def test_a_list_that_holds_itself_is_none(self):
        ring = [3]
        ring.append(ring)
        self.assertIs(is_chain(ring), False)
        self.assertIs(is_begun(ring), False)


class IsBegun(unittest.TestCase):
    def test_the_empty_list_is_a_beginning(self):
        self.assertIs(is_begun([]), True)

    def test_beginnings_are_beginnings(self):
        for quotients in NO_CHAINS_BUT_BEGUN + CHAINS:
            self.assertIs(is_begun(quotients), quotients == [] or quotients[0] >= 0)

    def test_the_last_quotient_may_be_1_and_the_first_0(self):
        for quotients in ([0], [1], [0, 1], [3, 1], [0, 1, 1], [3, 7, 1], [0, 2]):
            self.assertIs(is_begun(quotients), True)

    def test_a_first_quotient_below_0_begins_nothing(self):
        for quotients in CHAINS_NOT_BEGUN:
            self.assertIs(is_begun(quotients), False)

    def test_lists_with_a_wrong_quotient_are_none(self):
        for quotients in lists_of_neither():
            self.assertIs(is_begun(quotients), False)

    def test_anything_but_a_list_is_none(self):
        for thing in no_lists() + no_numbers():
            if type(thing) is not list:
                self.assertIs(is_begun(thing), False)


class FractionOf(unittest.TestCase):
    def test_examples(self):
        self.assertEqual(fraction_of([3, 7, 16]), (355, 113))
        self.assertEqual(fraction_of([3, 7]), (22, 7))
        self.assertEqual(fraction_of([3, 8]), (25, 8))

    def test_whole_numbers(self):
        for whole in (0, 1, 2, 3, -1, -3, 10 ** 30, -10 ** 30):
            self.assertEqual(fraction_of([whole]), (whole, 1))

    def test_numbers_below_0(self):
        self.assertEqual(fraction_of([-1, 2]), (-1, 2))
        self.assertEqual(fraction_of([-4, 1, 6]), (-22, 7))
        self.assertEqual(fraction_of([-3, 7]), (-20, 7))

    def test_all_short_chains_and_long_ones(self):
        for quotients in lists_of_few(range(-3, 4), range(1, 5), 4) + long_chains():
            if is_told_alone(quotients):
                self.assertEqual(fraction_of(quotients), pair_of(number_of(quotients)))

    def test_told_are_a_tuple_and_whole_numbers(self):
        for quotients in CHAINS:
            told = fraction_of(quotients)
            self.assertIs(type(told), tuple)
            self.assertEqual([type(part) for part in told], [int, int])
            self.assertGreaterEqual(told[1], 1)

    def test_no_chain_is_refused(self):
        for thing in no_lists() + lists_of_neither() + NO_CHAINS_BUT_BEGUN:
            self.assertIs(told_or_refused(fraction_of, thing), BadChain)


class ChainOf(unittest.TestCase):
    def test_examples(self):
        self.assertEqual(chain_of(355, 113), [3, 7, 16])
        self.assertEqual(chain_of(22, 7), [3, 7])
        self.assertEqual(chain_of(25, 8), [3, 8])

    def test_whole_numbers(self):
        for whole in (0, 1, 2, 3, -1, -3, 10 ** 30, -10 ** 30):
            self.assertEqual(chain_of(whole, 1), [whole])
            self.assertEqual(chain_of(whole * 12, 12), [whole])

    def test_numbers_below_0(self):
        self.assertEqual(chain_of(-1, 2), [-1, 2])
        self.assertEqual(chain_of(-22, 7), [-4, 1, 6])
        self.assertEqual(chain_of(-20, 7), [-3, 7])
        self.assertEqual(chain_of(-3, 3), [-1])

    def test_lowest_terms_or_not(self):
        for times in (2, 3, 113, 10 ** 59 + 7, 355 ** 24):
            self.assertEqual(chain_of(355 * times, 113 * times), [3, 7, 16])
            self.assertEqual(chain_of(0, times), [0])

    def test_all_small_fractions(self):
        for bottom in range(1, 25):
            for top in range(-60, 61):
                quotients = chain_of(top, bottom)
                self.assertTrue(is_chain(quotients))
                self.assertEqual(number_of(quotients), Fraction(top, bottom))

    def test_each_short_chain_is_told_again(self):
        for quotients in lists_of_few(range(-3, 4), range(1, 5), 4):
            if is_told_alone(quotients):
                self.assertEqual(chain_of(*fraction_of(quotients)), quotients)

    def test_each_long_chain_is_told_again(self):
        for quotients in long_chains():
            top, bottom = pair_of(number_of(quotients))
            self.assertEqual(chain_of(top, bottom), quotients)
            for times in (6, 10 ** 59 + 7):
                self.assertEqual(chain_of(top * times, bottom * times), quotients)

    def test_told_are_a_list_and_whole_numbers(self):
        for top, bottom in ((355, 113), (4, 2), (-1, 2), (0, 5), (1, 1), (10 ** 30, 3)):
            told = chain_of(top, bottom)
            self.assertIs(type(told), list)
            self.assertEqual({type(part) for part in told}, {int})

    def test_a_bottom_of_0_or_below_is_refused(self):
        for bottom in (0, -1, -7, -10 ** 30, -10 ** 5000):
            for top in (22, 0, -22, 10 ** 5000):
                self.assertIs(told_or_refused(chain_of, top, bottom), BadFraction)

    def test_what_is_no_whole_number_is_refused(self):
        for thing in no_numbers():
            for top, bottom in ((thing, 7), (22, thing), (thing, 0), (thing, thing), (thing, -1)):
                self.assertIs(told_or_refused(chain_of, top, bottom), BadFraction)

    def test_a_pair_in_the_place_of_a_number_is_refused(self):
        self.assertIs(told_or_refused(chain_of, (22, 7), 1), BadFraction)
        self.assertIs(told_or_refused(chain_of, [3, 7], 1), BadFraction)


class Compared(unittest.TestCase):
    def check(self, one, other, told):
        self.assertEqual((compared(one, other), type(compared(one, other))), (told, int))
        self.assertEqual(compared(other, one), -told)

    def test_the_greater_quotient_is_the_greater_number_at_even_places(self):
        self.check([3], [4], -1)
        self.check([4], [3, 7], 1)
        self.check([3, 7, 16], [3, 7, 15], 1)
        self.check([3, 7, 2, 2, 9], [3, 7, 2, 2, 8], 1)

    def test_the_greater_quotient_is_the_lesser_number_at_odd_places(self):
        self.check([3, 8], [3, 7], -1)
        self.check([3, 7, 5, 4], [3, 7, 5, 3], -1)
        self.check([3, 1, 1000], [3, 2], 1)

    def test_where_one_is_over_and_the_other_goes_on(self):
        self.check([3], [3, 7], -1)
        self.check([3, 7], [3, 7, 16], 1)
        self.check([3, 7, 16], [3, 7, 16, 10 ** 30], -1)
        self.check([3, 7, 16, 2], [3, 7, 16, 2, 10 ** 30], 1)
        self.check([0], [0, 1, 2], -1)

    def test_first_quotients_below_0(self):
        self.check([-3], [-4], 1)
        self.check([-3], [3], -1)
        self.check([-1, 2], [0], -1)
        self.check([-1, 2], [-1], 1)
        self.check([-4, 1, 6], [-3], -1)
        self.check([-3, 7], [-3, 8], 1)
        self.check([-10 ** 30, 2], [-10 ** 30 - 1, 2], 1)

    def test_alike_chains_tell_the_same_number(self):
        for quotients in CHAINS + long_chains():
            self.check(quotients, list(quotients), 0)
            self.check(quotients, quotients, 0)

    def test_all_pairs_of_short_chains(self):
        told_alone = [quotients for quotients in lists_of_few((-2, -1, 0, 1), (1, 2, 3), 4) if is_told_alone(quotients)]
        numbers = [number_of(quotients) for quotients in told_alone]
        for one, number in zip(told_alone, numbers):
            for other, another in zip(told_alone, numbers):
                self.assertEqual(compared(one, other), (number > another) - (number < another))

    def test_long_chains_unlike_at_one_place(self):
        for quotients in long_chains():
            for place in range(len(quotients)):
                more = quotients[:place] + [quotients[place] + 1] + quotients[place + 1:]
                self.check(more, quotients, 1 if place % 2 == 0 else -1)
                if place > 0 and quotients[place - 1] > 1:
                    self.check(quotients[:place], quotients, -1 if place % 2 == 1 else 1)

    def test_no_chain_is_refused_in_either_place(self):
        for thing in no_lists() + lists_of_neither() + NO_CHAINS_BUT_BEGUN:
            self.assertIs(told_or_refused(compared, thing, [3, 7]), BadChain)
            self.assertIs(told_or_refused(compared, [3, 7], thing), BadChain)
            self.assertIs(told_or_refused(compared, [4], thing), BadChain)
            self.assertIs(told_or_refused(compared, thing, thing), BadChain)
            self.assertIs(told_or_refused(compared, thing, Unruly()), BadChain)


class ManyQuotients(unittest.TestCase):
    """Below 4,000 figures a chain may have many thousands of quotients."""

    MANY = 19000

    def setUp(self):
        self.ones = [1] * (self.MANY - 1) + [2]
        # The numbers of which each is the sum of the two before it.
        self.bottom, self.top = 1, 2
        for _ in range(self.MANY - 1):
            self.bottom, self.top = self.top, self.bottom + self.top

    def test_there_and_back(self):
        self.assertIs(is_chain(self.ones), True)
        self.assertIs(is_begun(self.ones), True)
        self.assertTrue(fraction_of(self.ones) == (self.top, self.bottom))
        self.assertTrue(chain_of(self.top, self.bottom) == self.ones)
        self.assertTrue(chain_of(-self.top, self.bottom) == [-2, 2] + self.ones[3:])

    def test_order(self):
        more = self.ones[:-1] + [3]
        self.assertEqual(compared(self.ones, list(self.ones)), 0)
        self.assertEqual(compared(self.ones, more), 1)
        self.assertEqual(compared(more, self.ones), -1)
        self.assertEqual(compared(self.ones, self.ones + [2]), 1)

    def test_more_figures_raise_nothing(self):
        large = 10 ** 4500
        self.assertTrue(fraction_of([large, large]) == (large ** 2 + 1, large))
        self.assertTrue(chain_of(large ** 2 + 1, large) == [large, large])
        self.assertEqual(compared([large], [large, large]), -1)


class TheAskersOwn(unittest.TestCase):
    def test_what_is_handed_in_is_as_it_was(self):
        for quotients in CHAINS + NO_CHAINS_BUT_BEGUN + CHAINS_NOT_BEGUN + lists_of_neither():
            before = list(quotients)
            is_chain(quotients)
            is_begun(quotients)
            told_or_refused(fraction_of, quotients)
            told_or_refused(compared, quotients, [3, 7])
            told_or_refused(compared, [3, 7], quotients)
            told_or_refused(compared, quotients, quotients)
            told_or_refused(chain_of, quotients, 7)
            self.assertEqual([id(part) for part in quotients], [id(part) for part in before])

    def test_what_was_told_may_be_changed(self):
        for top, bottom in ((355, 113), (3, 1), (-1, 2), (0, 1)):
            first = chain_of(top, bottom)
            right = list(first)
            first[0] = 99
            first.append(5)
            second = chain_of(top, bottom)
            self.assertEqual(second, right)
            self.assertEqual(first, [99] + right[1:] + [5])
            self.assertIsNot(chain_of(top, bottom), second)

    def test_what_was_handed_in_may_be_changed(self):
        quotients, other = [3, 7, 16], [3, 7]
        told = (fraction_of(quotients), compared(quotients, other), is_chain(quotients), is_begun(quotients))
        self.assertEqual(told, ((355, 113), -1, True, True))
        quotients[2] = 1
        self.assertEqual((is_chain(quotients), is_begun(quotients)), (False, True))
        self.assertIs(told_or_refused(fraction_of, quotients), BadChain)
        self.assertIs(told_or_refused(compared, quotients, other), BadChain)
        quotients[:] = [-3, 8]
        other.append(2)
        self.assertEqual(fraction_of(quotients), (-23, 8))
        self.assertEqual(fraction_of(other), (47, 15))
        self.assertEqual(compared(other, quotients), 1)
        self.assertEqual((is_chain(quotients), is_begun(quotients)), (True, False))
        self.assertEqual(told, ((355, 113), -1, True, True))

    def test_the_chain_that_was_told_may_be_handed_in(self):
        quotients = chain_of(355, 113)
        self.assertEqual(fraction_of(quotients), (355, 113))
        quotients.append(2)
        self.assertEqual(fraction_of(quotients), (732, 233))
        self.assertEqual(chain_of(355, 113), [3, 7, 16])

    def test_a_refusal_changes_nothing(self):
        for thing in no_lists() + lists_of_neither():
            told_or_refused(fraction_of, thing)
            told_or_refused(compared, [3, 7], thing)
            told_or_refused(chain_of, 22, thing)
        self.assertEqual(fraction_of([3, 7]), (22, 7))
        self.assertEqual(chain_of(22, 7), [3, 7])
        self.assertEqual(compared([3, 7], [3, 7, 16]), 1)


if __name__ == "__main__":
    unittest.main()
