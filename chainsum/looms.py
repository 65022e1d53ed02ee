"""Looms: two numbers come, quotient by quotient, and what is sure of what they come to is told."""

from chainsum.chains import is_begun, is_chain_above_0
from chainsum.errors import BadChain, BadQuotient, BadWord, Ended
from chainsum.reckoning import is_word
from chainsum.sureness import sure


class Loom:
    """A word and the two numbers that come: the one from the left, the other from the right."""

    def __init__(self, word):
        if not is_word(word):
            raise BadWord("one of the four words is asked for")
        self._word = word
        self._one = Thread()
        self._other = Thread()

    def left(self, quotient):
        """Let one more quotient of the one come."""
        self._one.come(quotient)

    def right(self, quotient):
        """Let one more quotient of the other come."""
        self._other.come(quotient)

    def left_ends(self):
        """Let the one be whole."""
        self._one.end()

    def right_ends(self):
        """Let the other be whole."""
        self._other.end()

    def told(self):
        """Return the list of the quotients that are sure."""
        return self._sure()[0]

    def shown(self):
        """Return a tuple of the two pairs that show that no more is sure, None and None where all is."""
        _, first, second = self._sure()
        return first, second

    def is_over(self):
        """Return True where both are whole."""
        return self._one.is_whole and self._other.is_whole

    def _sure(self):
        return sure(self._word, self._one.number(), self._other.number())


class Thread:
    """One number that comes."""

    def __init__(self):
        self.quotients = []
        self.is_whole = False

    def come(self, quotient):
        """Take one more quotient."""
        if self.is_whole:
            raise Ended("the number is whole")
        # What can come depends on whether it is the first one only, so the last one stands for all.
        if not is_begun(self.quotients[-1:] + [quotient]):
            raise BadQuotient("no such quotient can come there")
        self.quotients.append(quotient)

    def end(self):
        """Take what came as the whole chain."""
        if self.is_whole:
            raise Ended("the number is whole already")
        if not is_chain_above_0(self.quotients):
            raise BadChain("what came is no chain of a number above 0")
        self.is_whole = True

    def number(self):
        """Return it as a number that comes."""
        return self.quotients, self.is_whole
