"""What the tests share: things to hand in, and a second way to reckon what is told."""

import operator
from decimal import Decimal
from fractions import Fraction

DEEDS = {"plus": operator.add, "less": operator.sub, "times": operator.mul, "over": operator.truediv}


class Unruly:
    """Whoever asks this anything at all is told an error that is no refusal."""

    def fail(self, *rest):
        raise RuntimeError("asked an unruly thing")

    __eq__ = __ne__ = __lt__ = __le__ = __gt__ = __ge__ = fail
    __len__ = __iter__ = __bool__ = __getitem__ = __contains__ = fail
    __int__ = __index__ = __str__ = __repr__ = __hash__ = fail
    __add__ = __radd__ = __mul__ = __rmul__ = __divmod__ = __rdivmod__ = __mod__ = fail


def no_numbers():
    """Things, made anew each time, that are no whole numbers."""
    return [
        True, False, None, "", "3", b"3", 3.0, 3.5, float("nan"), float("inf"), 3 + 0j,
        Fraction(3), Decimal(3), [], [3], (3,), {3}, {3: 3}, range(3), iter([3]), object(),
        int, len, Unruly(),
    ]


def no_lists():
    """Things, made anew each time, that are no lists."""
    return [
        None, True, False, 0, 3, -3, 3.5, Fraction(22, 7), "", "37", "[3, 7]", b"37", (), (3,), (3, 7),
        {}, {3: 7}, {0: 3, 1: 7}, set(), {3, 7}, frozenset([3, 7]), range(3, 8), iter([3, 7]),
        (k for k in [3, 7]), bytearray(b"37"), object(), list, len, Unruly(),
    ]


def lists_of_neither():
    """Lists, made anew each time, that are neither chains nor beginnings."""
    found = [
        [3, 0], [3, -1], [3, -7], [3, 7, 0], [3, 0, 7], [3, 7, -16], [3, -7, 16], [0, 0], [0, 0, 2],
        [3, 7, 16, 0], [3, 7, 0, 16], [1, 2, 3, 4, -5, 6], [3, -10 ** 30], [3, -10 ** 5000],
        [[]], [[3, 7]], [[3], 7], [3, [7]], [3, 7, [16]], [(3, 7)],
    ]
    for thing in no_numbers():
        found.extend([[thing], [thing, 7], [3, thing], [3, thing, 16], [3, 7, thing]])
    return found


def no_words():
    """Things, made anew each time, that are none of the four words."""
    return no_numbers() + no_lists() + [
        0, 1, -1, "Plus", "PLUS", " plus", "plus ", "plus\n", "plu", "pluss", "minus", "+", "add", "pluslesstimesover",
        "plus less", "more", b"plus", b"over", ["plus"], ("plus",), {"plus"}, {"plus": "plus"},
        ("plus", "less", "times", "over"), ["plus", "less", "times", "over"],
    ]


def no_chains_above_0():
    """Things, made anew each time, that are no chains of a number above 0."""
    return no_lists() + lists_of_neither() + [
        [], [0, 1], [3, 1], [1, 1], [3, 7, 1], [0, 1, 1], [10 ** 30, 1], [-1, 1],
        [0], [-1], [-3], [-1, 2], [-3, 7, 16], [-10 ** 30, 2], [-1, 1, 10 ** 30], [-10 ** 5000, 2],
    ]


def no_numbers_that_come():
    """Things, made anew each time, that are no tuple (quotients, whole) as is asked for."""
    found = no_lists() + lists_of_neither() + [
        [], [3], [3, 7], [[3], True], [[3, 7], False], ([3],), ([3], True, True), ([3], False, None), (True, [3]),
        (False, [3]), ([3], [7]), (3, True), (3, False), (3, 7), (([3], True),), (([3], True), False), ([[3]], False),
    ]
    for thing in no_numbers() + [0, 1, -1, "True", "whole", Unruly()]:
        if thing is not True and thing is not False:
            found.extend([([3], thing), ([], thing)])
    found.extend((thing, True) for thing in no_chains_above_0())
    for thing in no_lists() + lists_of_neither() + [[-1], [-3], [-1, 2], [-3, 7, 16], [-10 ** 30, 2]]:
        found.append((thing, False))
    return found


def lists_of_few(firsts, others, most):
    """All lists of one to so many quotients, the first one of these, the others of those."""
    found = [[first] for first in firsts]
    longest = found
    for _ in range(most - 1):
        longest = [ahead + [k] for ahead in longest for k in others]
        found = found + longest
    return found


def is_told_alone(quotients):
    """Whether a good list of quotients is the one that tells its number."""
    return len(quotients) == 1 or quotients[-1] != 1


def number_of(quotients):
    """What a list of quotients tells, by the rule itself and by Python's own fractions."""
    number = Fraction(quotients[-1])
    for quotient in quotients[-2::-1]:
        number = quotient + 1 / number
    return number


def quotients_of(number):
    """The chain of one of Python's own fractions."""
    top, bottom = pair_of(number)
    found = []
    while bottom:
        found.append(top // bottom)
        top, bottom = bottom, top % bottom
    return found


def pair_of(number):
    return (number.numerator, number.denominator)


def long_chains(lengths=(1, 2, 3, 5, 8, 30, 59, 60, 61), firsts=(-10 ** 30 - 7, -3, -1, 0, 1, 2, 10 ** 29 + 1)):
    """Chains of some sixty quotients: thirty figures, ones and twos among them."""
    found = []
    seed = 20261119
    for length in lengths:
        for first in firsts:
            quotients = [first]
            while len(quotients) < length:
                # A plain row of numbers that leap about, the same in each run.
                seed = (seed * 6364136223846793005 + 1442695040888963407) % 2 ** 120
                quotients.append((1, 2, 1 + seed // 2 ** 20, 1 + seed % 9, 1, 1 + seed % 1000)[seed // 2 ** 100 % 6])
            if length > 1 and quotients[-1] == 1:
                quotients[-1] = 2
            found.append(quotients)
    return found


def told_or_refused(ask, *things):
    """What is told, or the class of the refusal."""
    try:
        return ask(*things)
    except ValueError as refusal:
        return refusal.__class__
