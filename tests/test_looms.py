"""Points 5, 7, 9 and 10 as quotients come, and 1 for them (interface, chainsum/looms.py)."""

import copy
import unittest

from chainsum import looms
from chainsum.errors import BadChain, BadQuotient, BadWord, ChainError, Ended
from chainsum.looms import Loom
from chainsum.reckoning import WORDS, reckoned
from chainsum.sureness import sure
from tests.helper import long_chains, no_numbers, no_words, told_or_refused

METHODS = ("left", "right", "left_ends", "right_ends", "told", "shown", "is_over")
PAIRS = [
    ([3, 7, 16], [1, 2]), ([0, 2], [0, 2]), ([1], [1, 1, 1, 2]), ([0, 1, 1, 1, 3], [5]), ([3], [3]),
    ([2, 1, 2], [0, 7]),
]


class Case(unittest.TestCase):
    def assert_tells(self, loom, word, one, other):
        """See that a loom tells what is sure of two numbers that come."""
        told, first, second = sure(word, one, other)
        self.assertEqual(loom.told(), told)
        self.assertIs(type(loom.told()), list)
        self.assertEqual(loom.shown(), (first, second))
        self.assertIs(type(loom.shown()), tuple)
        self.assertIs(loom.is_over(), one[1] and other[1])


class Interface(Case):
    def test_the_class_is_defined_here_and_each_method_in_it(self):
        self.assertEqual(Loom.__module__, "chainsum.looms")
        self.assertIs(looms.Loom, Loom)
        for name in METHODS:
            self.assertIn(name, Loom.__dict__)

    def test_arguments_have_the_names_that_are_listed(self):
        loom = Loom(word="over")
        loom.left(quotient=3)
        loom.right(quotient=2)
        self.assert_tells(loom, "over", ([3], False), ([2], False))

    def test_deeds_tell_none(self):
        loom = Loom("plus")
        self.assertEqual([loom.left(3), loom.right(2), loom.left_ends(), loom.right_ends()], [None] * 4)


class Told(Case):
    def test_at_first_both_are_empty_beginnings(self):
        for word in WORDS:
            self.assert_tells(Loom(word), word, ([], False), ([], False))
            self.assertEqual(Loom(word).told(), [])
            self.assertIs(Loom(word).is_over(), False)

    def test_as_they_come(self):
        for word in WORDS:
            for one, other in PAIRS:
                loom = Loom(word)
                for place in range(max(len(one), len(other))):
                    if place < len(one):
                        loom.left(one[place])
                        self.assert_tells(loom, word, (one[:place + 1], False), (other[:place], False))
                    if place < len(other):
                        loom.right(other[place])
                        self.assert_tells(loom, word, (one[:place + 1], False), (other[:place + 1], False))
                loom.right_ends()
                self.assert_tells(loom, word, (one, False), (other, True))
                loom.left_ends()
                self.assert_tells(loom, word, (one, True), (other, True))
                self.assertEqual(loom.told(), reckoned(word, one, other))
                self.assertEqual(loom.shown(), (None, None))
                self.assertIs(loom.is_over(), True)

    def test_left_is_the_one_and_right_the_other(self):
        loom = Loom("less")
        loom.left(5)
        loom.left_ends()
        self.assertIs(loom.is_over(), False)
        loom.right(3)
        self.assertIs(loom.is_over(), False)
        loom.right_ends()
        self.assertIs(loom.is_over(), True)
        self.assertEqual(loom.told(), [2])

    def test_one_that_comes_alone(self):
        loom = Loom("times")
        loom.right(1)
        loom.right_ends()
        for length, quotient in enumerate([3, 7, 1, 292], 1):
            loom.left(quotient)
            self.assertEqual(loom.told(), [3, 7, 1, 292][:length])

    def test_what_was_told_stays(self):
        found = long_chains(lengths=(8, 30), firsts=(0, 1, 3))
        for word in WORDS:
            for one in found:
                for other in found[::2]:
                    loom = Loom(word)
                    last = []
                    for quotients, come in ((one[:9], loom.left), (other, loom.right), (one[9:], loom.left)):
                        for quotient in quotients:
                            come(quotient)
                            told = loom.told()
                            self.assertEqual(told[:len(last)], last)
                            last = told
                    loom.left_ends()
                    loom.right_ends()
                    self.assertEqual(loom.told()[:len(last)], last)
                    self.assertEqual(loom.told(), reckoned(word, one, other))

    def test_looms_have_nothing_in_common(self):
        one, other = Loom("plus"), Loom("plus")
        one.left(3)
        one.left_ends()
        one.right(1)
        self.assert_tells(other, "plus", ([], False), ([], False))
        other.left(4)
        self.assert_tells(one, "plus", ([3], True), ([1], False))

    def test_many_quotients(self):
        loom = Loom("times")
        loom.left(1)
        loom.left_ends()
        for _ in range(3000):
            loom.right(1)
        self.assertEqual(loom.told(), [1] * 3000)


class Refusals(Case):
    def test_no_word_is_refused(self):
        for word in no_words():
            self.assertIs(told_or_refused(Loom, word), BadWord)

    def test_what_can_not_come_first(self):
        for thing in no_numbers() + [-1, -2, -10 ** 30, -10 ** 5000]:
            for word in WORDS:
                loom = Loom(word)
                self.assertIs(told_or_refused(loom.left, thing), BadQuotient)
                self.assertIs(told_or_refused(loom.right, thing), BadQuotient)
                self.assert_tells(loom, word, ([], False), ([], False))
        for first in (0, 1, 2, 10 ** 30):
            loom = Loom("plus")
            self.assertIsNone(loom.left(first))
            self.assertIsNone(loom.right(first))
            self.assert_tells(loom, "plus", ([first], False), ([first], False))

    def test_what_can_not_come_later(self):
        for ahead in ([0], [3], [3, 7], [3, 1], [0, 1, 1]):
            loom = Loom("over")
            for quotient in ahead:
                loom.left(quotient)
                loom.right(quotient)
            for thing in no_numbers() + [0, -1, -2, -10 ** 30, -10 ** 5000]:
                self.assertIs(told_or_refused(loom.left, thing), BadQuotient)
                self.assertIs(told_or_refused(loom.right, thing), BadQuotient)
            self.assert_tells(loom, "over", (ahead, False), (ahead, False))
            loom.left(1)
            loom.right(2)
            self.assert_tells(loom, "over", (ahead + [1], False), (ahead + [2], False))

    def test_nothing_comes_to_a_whole_number(self):
        loom = Loom("plus")
        loom.left(3)
        loom.left_ends()
        for thing in [7, 1, 0, -1] + no_numbers():
            self.assertIs(told_or_refused(loom.left, thing), Ended)
        self.assertIs(told_or_refused(loom.left_ends), Ended)
        self.assert_tells(loom, "plus", ([3], True), ([], False))
        self.assertIs(told_or_refused(loom.right, 0.5), BadQuotient)
        self.assertIs(told_or_refused(loom.right_ends), BadChain)
        loom.right(4)
        loom.right_ends()
        for thing in [7, 1, 0, -1] + no_numbers():
            self.assertIs(told_or_refused(loom.right, thing), Ended)
        self.assertIs(told_or_refused(loom.right_ends), Ended)
        self.assertIs(told_or_refused(loom.left_ends), Ended)
        self.assert_tells(loom, "plus", ([3], True), ([4], True))

    def test_what_is_no_chain_of_a_number_above_0_does_not_end(self):
        for ahead in ([], [0], [0, 1], [3, 1], [1, 1], [3, 7, 1]):
            loom = Loom("times")
            for quotient in ahead:
                loom.left(quotient)
                loom.right(quotient)
            for _ in range(2):
                self.assertIs(told_or_refused(loom.left_ends), BadChain)
                self.assertIs(told_or_refused(loom.right_ends), BadChain)
            self.assert_tells(loom, "times", (ahead, False), (ahead, False))
            # What was wanting may still come.
            loom.left(2)
            loom.left_ends()
            self.assert_tells(loom, "times", (ahead + [2], True), (ahead, False))
            loom.right(3)
            loom.right_ends()
            self.assert_tells(loom, "times", (ahead + [2], True), (ahead + [3], True))

    def test_1_alone_is_a_chain(self):
        loom = Loom("plus")
        loom.left(1)
        loom.right(1)
        loom.left_ends()
        loom.right_ends()
        self.assertEqual(loom.told(), [2])

    def test_refusals_are_of_the_kinds_of_all(self):
        ended = Loom("plus")
        ended.left(3)
        ended.left_ends()
        asked = (
            (BadWord, Loom, "minus"), (BadQuotient, Loom("plus").left, -1), (BadQuotient, Loom("plus").right, None),
            (BadChain, Loom("plus").left_ends), (BadChain, Loom("plus").right_ends), (Ended, ended.left, 1),
            (Ended, ended.left_ends),
        )
        for kind, ask, *things in asked:
            with self.assertRaises(ChainError) as caught:
                ask(*things)
            self.assertIs(caught.exception.__class__, kind)
            self.assertIsInstance(caught.exception, ValueError)


class TheAskersOwn(Case):
    def test_what_is_told_may_be_changed(self):
        for word in WORDS:
            for ends in ((), ("left_ends",), ("left_ends", "right_ends")):
                loom = Loom(word)
                for quotient in (3, 7):
                    loom.left(quotient)
                loom.right(1)
                for name in ends:
                    getattr(loom, name)()
                whole = loom.told(), loom.shown()
                before = copy.deepcopy(whole)
                for found in [whole[0]] + [chain for pair in whole[1] for chain in pair or ()]:
                    found.insert(0, -9)
                    found.append(True)
                self.assertEqual((loom.told(), loom.shown()), before)

    def test_what_was_told_stays_as_more_comes(self):
        loom = Loom("times")
        loom.right(1)
        loom.right_ends()
        loom.left(3)
        told, shown = loom.told(), loom.shown()
        before = copy.deepcopy((told, shown))
        loom.left(7)
        loom.left_ends()
        loom.told()
        self.assertEqual((told, shown), before)
        self.assertEqual(told, [3])


if __name__ == "__main__":
    unittest.main()
