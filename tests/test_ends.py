"""Points 5 and 6, and 1 for them (interface, chainsum/ends.py)."""

import unittest
from fractions import Fraction

from chainsum import ends
from chainsum.chains import chain_of, is_begun
from chainsum.ends import ends_of
from chainsum.errors import BadChain
from tests.helper import lists_of_few, lists_of_neither, long_chains, no_lists, number_of, pair_of, told_or_refused

BEGUN = [[], [0], [1], [2], [3], [0, 1], [0, 2], [3, 1], [3, 7], [3, 7, 1], [3, 7, 16], [0, 1, 1], [10 ** 30, 1]]


def reaches(told, number):
    """Whether a number lies between the two ends that were told, met ends included."""
    low, low_is_met, high, high_is_met = told
    if number == Fraction(*low):
        return low_is_met
    if high is not None and number == Fraction(*high):
        return high_is_met
    return Fraction(*low) < number and (high is None or number < Fraction(*high))


class EndsOf(unittest.TestCase):
    def test_interface(self):
        self.assertEqual(ends.ends_of.__module__, "chainsum.ends")
        self.assertEqual(ends_of(begun=[3]), ((3, 1), True, (4, 1), False))

    def test_the_empty_beginning(self):
        self.assertEqual(ends_of([]), ((0, 1), False, None, False))

    def test_0_alone(self):
        self.assertEqual(ends_of([0]), ((0, 1), False, (1, 1), False))

    def test_one_quotient(self):
        self.assertEqual(ends_of([3]), ((3, 1), True, (4, 1), False))
        self.assertEqual(ends_of([1]), ((1, 1), True, (2, 1), False))
        self.assertEqual(ends_of([10 ** 30]), ((10 ** 30, 1), True, (10 ** 30 + 1, 1), False))

    def test_two_quotients_are_told_the_lesser_end_first(self):
        self.assertEqual(ends_of([3, 7]), ((25, 8), False, (22, 7), True))
        self.assertEqual(ends_of([0, 2]), ((1, 3), False, (1, 2), True))

    def test_three_and_four_quotients(self):
        self.assertEqual(ends_of([3, 7, 16]), ((355, 113), True, (377, 120), False))
        self.assertEqual(ends_of([3, 7, 16, 2]), ((1087, 346), False, (732, 233), True))

    def test_a_last_quotient_of_1_meets_neither_end(self):
        self.assertEqual(ends_of([3, 1]), ((7, 2), False, (4, 1), False))
        self.assertEqual(ends_of([0, 1]), ((1, 2), False, (1, 1), False))
        self.assertEqual(ends_of([1, 1]), ((3, 2), False, (2, 1), False))
        self.assertEqual(ends_of([3, 7, 1]), ((25, 8), False, (47, 15), False))
        self.assertEqual(ends_of([0, 1, 1]), ((1, 2), False, (2, 3), False))

    def test_kinds_of_what_is_told(self):
        for begun in BEGUN:
            told = ends_of(begun)
            self.assertIs(type(told), tuple)
            self.assertEqual([type(told[k]) for k in (1, 3)], [bool, bool])
            for end in (told[0], told[2]):
                if begun or end is not None:
                    self.assertIs(type(end), tuple)
                    self.assertEqual([type(part) for part in end], [int, int])

    def test_ends_of_short_beginnings_hold_just_the_numbers_that_begin_so(self):
        numbers = [Fraction(top, bottom) for bottom in range(1, 14) for top in range(1, 5 * bottom)]
        chains = [chain_of(*pair_of(number)) for number in numbers]
        for begun in [[]] + lists_of_few(range(0, 4), range(1, 5), 3):
            told = ends_of(begun)
            for number, quotients in zip(numbers, chains):
                self.assertEqual(reaches(told, number), quotients[:len(begun)] == begun)

    def test_numbers_that_begin_so_come_as_near_to_both_ends_as_one_likes(self):
        for begun in lists_of_few(range(0, 4), range(1, 5), 3) + [found for found in long_chains() if is_begun(found)]:
            low, _, high, _ = ends_of(begun)
            near = number_of(begun + [10 ** 4000])
            far = number_of(begun + [1, 10 ** 4000])
            first, last = sorted([near, far])
            self.assertTrue(Fraction(*low) < first < Fraction(*low) + Fraction(1, 10 ** 3990))
            self.assertTrue(Fraction(*high) - Fraction(1, 10 ** 3990) < last < Fraction(*high))

    def test_long_beginnings(self):
        for begun in long_chains():
            if is_begun(begun):
                for last in (begun[-1], 1):
                    asked = begun[:-1] + [last]
                    near, far = number_of(asked), number_of(asked[:-1] + [last + 1])
                    is_met = asked == [last] and last > 0 or last > 1
                    if near < far:
                        right = (pair_of(near), is_met, pair_of(far), False)
                    else:
                        right = (pair_of(far), False, pair_of(near), is_met)
                    self.assertEqual(ends_of(asked), right)

    def test_many_thousand_quotients(self):
        # Ones alone tell quotients of two numbers of the row in which each is the sum of the two before it.
        bottom, top = 1, 1
        for _ in range(18999):
            bottom, top = top, bottom + top
        self.assertTrue(ends_of([1] * 19000) == ((bottom + top, top), False, (top, bottom), False))
        near, far = (bottom + top, top), (2 * bottom + top, 2 * top - bottom)
        self.assertTrue(ends_of([1] * 18999 + [2]) == (far, False, near, True))

    def test_more_figures_raise_nothing(self):
        large = 10 ** 4500
        self.assertTrue(ends_of([large]) == ((large, 1), True, (large + 1, 1), False))

    def test_no_beginning_is_refused(self):
        for thing in no_lists() + lists_of_neither() + [[-1], [-3, 7], [-1, 2], [-10 ** 30], [-10 ** 5000, 2]]:
            self.assertIs(told_or_refused(ends_of, thing), BadChain)


class TheAskersOwn(unittest.TestCase):
    def test_what_is_handed_in_is_as_it_was(self):
        for begun in BEGUN + lists_of_neither() + [[-1], [-3, 7]]:
            before = list(begun)
            told_or_refused(ends_of, begun)
            self.assertEqual([id(part) for part in begun], [id(part) for part in before])

    def test_what_was_handed_in_may_be_changed(self):
        begun = [3]
        told = ends_of(begun)
        begun.append(7)
        self.assertEqual(ends_of(begun), ((25, 8), False, (22, 7), True))
        begun[1] = 1
        self.assertEqual(ends_of(begun), ((7, 2), False, (4, 1), False))
        begun.clear()
        self.assertEqual(ends_of(begun), ((0, 1), False, None, False))
        begun.append(-1)
        self.assertIs(told_or_refused(ends_of, begun), BadChain)
        self.assertEqual(told, ((3, 1), True, (4, 1), False))

    def test_a_refusal_changes_nothing(self):
        for thing in no_lists() + lists_of_neither():
            told_or_refused(ends_of, thing)
        self.assertEqual(ends_of([3, 7]), ((25, 8), False, (22, 7), True))


if __name__ == "__main__":
    unittest.main()
