"""Points 7, 9 and 10, and 1, 5, 6 and 8 for them (interface, chainsum/sureness.py)."""

import copy
import unittest
from fractions import Fraction

from chainsum import sureness
from chainsum.chains import is_chain
from chainsum.errors import BadChain, BadWord, ChainError
from chainsum.reckoning import WORDS, reckoned
from chainsum.sureness import sure
from tests.helper import (
    DEEDS, is_told_alone, lists_of_few, long_chains, no_numbers_that_come, no_words, number_of, quotients_of,
    told_or_refused,
)

FEW = [[]] + lists_of_few(range(0, 3), range(1, 4), 3)
COMING = [(quotients, False) for quotients in FEW]
WHOLE = [(quotients, True) for quotients in FEW if quotients not in ([], [0]) and is_told_alone(quotients)]
LARGE = 10 ** 12
TAILS = [[], [2], [3], [1, 2], [1, 1, 2], [2, 1, 2], [LARGE], [1, LARGE], [2, LARGE], [1, 1, LARGE]]
ANY = [
    [1], [2], [5], [0, 2], [0, 3], [0, 1, 2], [0, LARGE], [0, 1, LARGE], [LARGE], [LARGE, 2], [1, LARGE], [1, 1, LARGE],
]


def stood_for(number):
    """Many of the numbers that one stands for, some of them at its ends or very near to them."""
    quotients, whole = number
    if whole:
        return [number_of(quotients)]
    if quotients == []:
        return [number_of(chain) for chain in ANY]
    found = [quotients + tail for tail in TAILS]
    return [number_of(chain) for chain in found if chain != [0] and is_told_alone(chain)]


class Case(unittest.TestCase):
    def assert_stands_for(self, number, chain):
        """See that a number that comes stands for a chain's number, or is it."""
        quotients, whole = number
        self.assertTrue(is_chain(chain) and chain[0] >= 0 and chain != [0], chain)
        if whole:
            self.assertEqual(chain, quotients)
        else:
            self.assertEqual(chain[:len(quotients)], quotients)

    def assert_parts(self, word, one, other, told, pairs):
        """See that two pairs show that no more is sure."""
        behind = []
        for pair in pairs:
            self.assertIs(type(pair), tuple)
            self.assertEqual([type(chain) for chain in pair], [list, list])
            self.assert_stands_for(one, pair[0])
            self.assert_stands_for(other, pair[1])
            reached = quotients_of(DEEDS[word](number_of(pair[0]), number_of(pair[1])))
            self.assertEqual(reached[:len(told)], told)
            behind.append(reached[len(told):len(told) + 1])
        self.assertNotEqual(behind[0], behind[1])

    def ask(self, word, one, other):
        """What is told as sure, when all else that is told with it has been seen to be right."""
        whole = sure(word, one, other)
        self.assertIs(type(whole), tuple)
        told, first, second = whole
        self.assertIs(type(told), list)
        self.assertEqual(sure(word, one, other), whole)
        if one[1] and other[1]:
            self.assertIsNone(first)
            self.assertIsNone(second)
        else:
            self.assert_parts(word, one, other, told, (first, second))
        return told


class Interface(unittest.TestCase):
    def test_the_function_is_defined_here_with_arguments_as_listed(self):
        self.assertEqual(sureness.sure.__module__, "chainsum.sureness")
        self.assertEqual(sure(other=([2], True), word="over", one=([3], True)), ([1, 2], None, None))


class Plain(Case):
    def test_two_empty_beginnings(self):
        for word in WORDS:
            self.assertEqual(self.ask(word, ([], False), ([], False)), [])

    def test_one_empty_beginning(self):
        for word in WORDS:
            for other in COMING + WHOLE:
                self.assertEqual(self.ask(word, ([], False), other), [])
            for one in COMING + WHOLE:
                self.assertEqual(self.ask(word, one, ([], False)), [])

    def test_plus(self):
        self.assertEqual(self.ask("plus", ([3], False), ([0], False)), [])
        self.assertEqual(self.ask("plus", ([3], True), ([0], False)), [3])
        self.assertEqual(self.ask("plus", ([3, 7], False), ([1], True)), [4, 7])
        self.assertEqual(self.ask("plus", ([3, 7], False), ([0, 7], False)), [3, 3])
        # Both meet their high ends, and what these come to is a whole number.
        self.assertEqual(self.ask("plus", ([0, 2], False), ([0, 2], False)), [])
        self.assertEqual(self.ask("plus", ([0, 2], False), ([0, 2], True)), [])
        # One of both does not meet it, so that they all are below 1.
        self.assertEqual(self.ask("plus", ([0, 2], False), ([0, 2, 1], False)), [0, 1])

    def test_less(self):
        self.assertEqual(self.ask("less", ([3], False), ([3], False)), [])
        self.assertEqual(self.ask("less", ([5], False), ([3, 1], False)), [])
        self.assertEqual(self.ask("less", ([5, 2], False), ([3, 1], False)), [1])
        self.assertEqual(self.ask("less", ([5], True), ([0, 2], False)), [4])
        self.assertEqual(self.ask("less", ([5], True), ([0, 2, 1], False)), [4, 1, 1, 1])

    def test_times(self):
        self.assertEqual(self.ask("times", ([3], True), ([2], False)), [])
        self.assertEqual(self.ask("times", ([2], True), ([0, 2], False)), [])
        self.assertEqual(self.ask("times", ([2], True), ([0, 3], False)), [0, 1])
        self.assertEqual(self.ask("times", ([2], True), ([0, 2, 1], False)), [0, 1])
        self.assertEqual(self.ask("times", ([1], True), ([0, 2, 5], False)), [0, 2, 5])

    def test_over(self):
        self.assertEqual(self.ask("over", ([1], True), ([2], False)), [0, 2])
        self.assertEqual(self.ask("over", ([3], True), ([0], False)), [])
        self.assertEqual(self.ask("over", ([3], False), ([3], False)), [])
        self.assertEqual(self.ask("over", ([3], True), ([3], False)), [])
        self.assertEqual(self.ask("over", ([3], True), ([3, 1], False)), [0, 1])

    def test_0_or_below_is_reached(self):
        self.assertEqual(self.ask("less", ([3], True), ([3], False)), [])
        self.assertEqual(self.ask("less", ([3], True), ([2, 1], False)), [0])
        self.assertEqual(self.ask("less", ([3], True), ([3, 1], False)), [-1])
        self.assertEqual(self.ask("less", ([3], True), ([3, 2], False)), [-1])
        self.assertEqual(self.ask("less", ([3], True), ([3, 2, 1], False)), [-1, 1, 1, 1])
        self.assertEqual(self.ask("less", ([0], False), ([1], True)), [-1])
        self.assertEqual(self.ask("less", ([0], False), ([0], False)), [])
        self.assertEqual(self.ask("less", ([0], False), ([0, 1], False)), [])
        self.assertEqual(self.ask("less", ([0, 7, 3], False), ([12, 1, 1], False)), [-13])
        self.assertEqual(self.ask("less", ([], False), ([3], True)), [])

    def test_a_met_end_that_is_whole_is_a_chain_that_is_over(self):
        # From 3 on, met: [3] itself is one, so that no more can be sure.
        self.assertEqual(self.ask("plus", ([2], False), ([1], True)), [3])
        self.assertEqual(self.ask("times", ([1], True), ([3], False)), [3])
        # Above 3, not met.
        self.assertEqual(self.ask("plus", ([0], False), ([3], True)), [3])
        # Up to 3, met; and below 3.
        self.assertEqual(self.ask("plus", ([0, 2], False), ([2, 2], True)), [])
        self.assertEqual(self.ask("plus", ([0, 1], False), ([2], True)), [2, 1])

    def test_two_whole_numbers(self):
        self.assertEqual(self.ask("plus", ([3, 7], True), ([0, 7], True)), [3, 3, 2])
        self.assertEqual(self.ask("less", ([3, 7], True), ([3, 7], True)), [0])
        self.assertEqual(self.ask("less", ([0, 3], True), ([0, 2], True)), [-1, 1, 5])
        self.assertEqual(self.ask("over", ([3, 7], True), ([3, 7], True)), [1])
        for word in WORDS:
            for one in WHOLE:
                for other in WHOLE:
                    self.assertEqual(sure(word, one, other), (reckoned(word, one[0], other[0]), None, None))

    def test_a_beginning_that_is_alike_a_whole_number_is_another_thing(self):
        self.assertEqual(self.ask("times", ([1], True), ([3, 7], True)), [3, 7])
        self.assertEqual(self.ask("times", ([1], True), ([3, 7], False)), [3, 7])
        self.assertEqual(self.ask("times", ([1], False), ([3, 7], True)), [])


class AllThatTheyComeTo(Case):
    def check_all(self, ones, others, words=WORDS):
        numbers = {id(number): stood_for(number) for number in ones + others}
        chains = {}
        for word in words:
            for one in ones:
                for other in others:
                    told = self.ask(word, one, other)
                    for x in numbers[id(one)]:
                        for y in numbers[id(other)]:
                            reached = DEEDS[word](x, y)
                            if reached not in chains:
                                chains[reached] = quotients_of(reached)
                            if chains[reached][:len(told)] != told:
                                self.fail((word, one, other, told, x, y))

    def test_of_two_that_come(self):
        self.check_all(COMING[::2], COMING[::2])
        self.check_all(COMING[1::4], COMING[1::3])

    def test_of_one_that_is_whole(self):
        self.check_all(WHOLE[::2], COMING)
        self.check_all(COMING, WHOLE[1::2])

    def test_where_an_end_is_brought_to_a_short_chain(self):
        back = {"plus": "less", "less": "plus", "times": "over", "over": "times"}
        for quotients in FEW[1:]:
            begun = (quotients, False)
            for end in (number_of(quotients), number_of(quotients[:-1] + [quotients[-1] + 1])):
                for reached in (Fraction(1), Fraction(2), Fraction(1, 2), Fraction(5, 3), Fraction(0), Fraction(-4, 3)):
                    for word in WORDS:
                        one = DEEDS[back[word]](reached, end) if end != 0 or word != "times" else 0
                        if one > 0:
                            self.check_all([(quotients_of(one), True)], [begun], (word,))

    def test_of_two_that_are_alike_for_long(self):
        ahead = [1, 2, 1, 1, 3, 1, 4, 2]
        some = [(ahead + tail, False) for tail in ([], [1], [2], [3], [1, 1], [2, 5], [1, 1, 7])]
        self.check_all(some, some + [(ahead, True), (ahead + [2], True), (ahead + [1, 2], True)])

    def test_of_0_alone_and_of_a_last_quotient_of_1(self):
        some = [([0], False), ([0, 1], False), ([1], False), ([1, 1], False), ([2, 1, 1], False), ([0, 1, 1, 1], False)]
        self.check_all(some, some)
        self.check_all(some, [([], False), ([1], True), ([2, 2], True), ([0, 3], True)])


class Long(Case):
    def test_beginnings_of_one_to_thirty_quotients(self):
        found = long_chains(lengths=(30,), firsts=(0, 1, 2, 3, 10 ** 29 + 1))
        for at, one in enumerate(found):
            other = found[at - 2]
            for word in WORDS:
                reached = reckoned(word, one, other)
                for length in (1, 2, 3, 4, 7, 10, 15, 20, 25, 29, 30):
                    told = self.ask(word, (one[:length], False), (other[:length], False))
                    self.assertEqual(reached[:len(told)], told)
                    self.ask(word, (one[:length], False), (other, True))
                    self.ask(word, (one, True), (other[:length], False))
                    self.ask(word, (one[:length] + [1], False), (other[:31 - length], False))

    def test_many_quotients_are_sure_of_long_beginnings(self):
        ones = [1] * 300
        for word in WORDS:
            self.assertGreater(len(self.ask(word, (ones, False), ([2] * 120, False))), 60)
        self.assertEqual(self.ask("times", (ones, False), ([1], True)), ones)
        self.assertEqual(self.ask("less", (ones, False), ([1], True)), [0] + ones[1:])
        self.assertEqual(self.ask("over", ([1], True), (ones, False)), [0] + ones)

    def test_a_number_very_near_to_a_whole_one(self):
        for figures in (1, 20, 400, 2000):
            tiny = [0, 10 ** figures]
            self.assertEqual(self.ask("plus", ([3], False), (tiny, True)), [])
            self.assertEqual(self.ask("less", ([3], False), (tiny, True)), [])
            self.assertEqual(self.ask("times", ([1, 10 ** figures], True), ([3], False)), [])
            self.assertEqual(self.ask("times", ([0, 1, 10 ** figures], True), ([3], False)), [])
            self.assertEqual(self.ask("over", ([3], False), ([1, 10 ** figures], True)), [])
            self.assertEqual(self.ask("over", ([3], False), ([0, 1, 10 ** figures], True)), [])
            large = 10 ** figures
            self.assertEqual(self.ask("plus", ([3, 1, large], False), ([0, large, 5], False)), [4])
            self.assertEqual(self.ask("plus", ([3, 1, large], False), ([0, large + 1], False)), [])

    def test_several_thousand_figures(self):
        one = quotients_of(Fraction(7 ** 2300, 3 ** 4000))
        other = quotients_of(Fraction(5 ** 2700, 2 ** 6300))
        for word in WORDS:
            reached = reckoned(word, one, other)
            told = self.ask(word, (one[:-1], False), (other[:-1], False))
            self.assertTrue(reached[:len(told)] == told and len(told) > 1000)
            self.assertTrue(self.ask(word, (one, True), (other, True)) == reached)

    def test_more_figures_raise_nothing(self):
        large = 10 ** 4500
        self.assertTrue(self.ask("plus", ([large], False), ([1], True)) == [large + 1])
        self.assertTrue(self.ask("over", ([1], True), ([large], False)) == [0, large])


class AsMoreCome(Case):
    def test_what_was_told_stays(self):
        found = long_chains(lengths=(1, 2, 3, 8, 30), firsts=(0, 1, 3)) + [[1, 1, 2], [0, 2], [3, 7, 16]]
        found = [chain for chain in found if chain != [0]]
        for at, one in enumerate(found):
            other = found[at - 5]
            for word in WORDS:
                for ahead in (1, 2, 3):
                    self.check_row(word, one, other, ahead)

    def check_row(self, word, one, other, ahead):
        """Let the one come, and the other at another pace; then they are whole, the one first."""
        last = []
        for length in range(max(len(one), len(other)) + 1):
            told = self.ask(word, (one[:length * ahead], False), (other[:length], False))
            self.assertEqual(told[:len(last)], last)
            last = told
        for numbers in (((one, True), (other, False)), ((one, True), (other, True))):
            told = self.ask(word, *numbers)
            self.assertEqual(told[:len(last)], last)
            last = told
        self.assertEqual(sure(word, (one, True), (other, True)), (last, None, None))
        self.assertEqual(last, quotients_of(DEEDS[word](number_of(one), number_of(other))))


class Refusals(unittest.TestCase):
    def test_no_word_is_refused_whatever_else_is_handed_in(self):
        for word in no_words():
            self.assertIs(told_or_refused(sure, word, ([3], True), ([], False)), BadWord)
            for thing in (None, [3], ([0], True), ([3],), "plus"):
                self.assertIs(told_or_refused(sure, word, thing, ([3], True)), BadWord)
                self.assertIs(told_or_refused(sure, word, ([3], True), thing), BadWord)

    def test_what_is_no_number_that_comes_is_refused(self):
        for word in WORDS:
            for thing in no_numbers_that_come():
                self.assertIs(told_or_refused(sure, word, thing, ([3], False)), BadChain)
                self.assertIs(told_or_refused(sure, word, ([3, 7], True), thing), BadChain)
                self.assertIs(told_or_refused(sure, word, thing, thing), BadChain)

    def test_a_whole_number_is_above_0_and_a_beginning_of_0_is_good(self):
        self.assertIs(told_or_refused(sure, "plus", ([0], True), ([3], True)), BadChain)
        self.assertIs(told_or_refused(sure, "plus", ([3], True), ([3, 1], True)), BadChain)
        self.assertIs(told_or_refused(sure, "plus", ([], True), ([3], True)), BadChain)
        for begun in ([0], [3, 1], [], [0, 1]):
            self.assertIs(type(sure("plus", (begun, False), ([3], True))), tuple)

    def test_refusals_are_of_the_kinds_of_all(self):
        for things in (("minus", ([3], True), ([3], True)), ("plus", None, ([3], True)), ("plus", ([3], True), 3)):
            with self.assertRaises(ChainError) as caught:
                sure(*things)
            self.assertIsInstance(caught.exception, ValueError)
            self.assertIn(caught.exception.__class__, (BadWord, BadChain))


class TheAskersOwn(unittest.TestCase):
    SOME = [([], False), ([0], False), ([3, 1], False), ([3, 7], False), ([3, 7], True), ([1], True)]

    def test_what_is_handed_in_is_as_it_was(self):
        for word in WORDS:
            for one in self.SOME:
                for other in self.SOME:
                    before = copy.deepcopy((one, other))
                    sure(word, one, other)
                    self.assertEqual((one, other), before)

    def test_what_is_told_may_be_changed(self):
        for word in WORDS:
            for one in self.SOME:
                for other in self.SOME + [one]:
                    given = copy.deepcopy((one, other))
                    whole = sure(word, one, other)
                    before = copy.deepcopy(whole)
                    told, first, second = whole
                    lists = [told]
                    if first is not None:
                        lists.extend([*first, *second])
                    self.assertEqual(len({id(found) for found in lists}), len(lists))
                    for found in lists:
                        found.insert(0, -9)
                        found.append(True)
                    self.assertEqual((one, other), given)
                    self.assertEqual(sure(word, one, other), before)

    def test_one_number_handed_in_twice_has_chains_of_its_own_each_time(self):
        number = ([3, 7], False)
        _, first, second = sure("plus", number, number)
        self.assertEqual(len({id(found) for found in (*first, *second, number[0])}), 5)

    def test_what_was_handed_in_may_be_changed(self):
        for word in WORDS:
            one, other = [3, 7], [1, 2]
            whole = sure(word, (one, False), (other, True))
            before = copy.deepcopy(whole)
            one.clear()
            other.append(-5)
            self.assertEqual(whole, before)
            self.assertEqual(sure(word, ([3, 7], False), ([1, 2], True)), before)
            self.assertIs(told_or_refused(sure, word, (one, False), (other, True)), BadChain)


if __name__ == "__main__":
    unittest.main()
