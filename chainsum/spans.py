"""Spans: all fractions between two ends, what two spans come to, and how the chains of a span begin.

A span is a tuple (low, is_met, high, is_met), as `ends_of` tells it. But its ends need not be in
lowest terms, and of what two spans come to low may be None, too: then there is no end below.
"""

from chainsum.chains import value_of
from chainsum.ends import ends_of
from chainsum.reckoning import fraction_reached


def span_of(number):
    """Return the span of what a number that comes stands for: of itself alone where it is whole."""
    quotients, is_whole = number
    if is_whole:
        point = value_of(quotients)
        return point, True, point, True
    return ends_of(quotients)


def span_reached(word, one, other):
    """Return the span of what all of the one and all of the other, which are above 0, come to."""
    one_low, one_low_is_met, one_high, one_high_is_met = one
    if word == "less" or word == "over":
        # What they come to is the less, the greater the other one is.
        high, high_is_met, low, low_is_met = other
    else:
        low, low_is_met, high, high_is_met = other
    return (
        _end_reached(word, one_low, low), one_low_is_met and low_is_met,
        _end_reached(word, one_high, high), one_high_is_met and high_is_met,
    )


def quotients_shared(span):
    """Return the quotients with which the chains of all in a span of several fractions begin."""
    shared = []
    while _has_one_first_quotient(span):
        low, low_is_met, high, high_is_met = span
        quotient = low[0] // low[1]
        shared.append(quotient)
        # What stands behind it is 1 over what it leaves, so the ends change places. Where it leaves
        # nothing of the low end, what stands behind has no end above, and is seen to share no more.
        span = _one_over_rest(high, quotient), high_is_met, _one_over_rest(low, quotient), low_is_met
    return shared


def _end_reached(word, one, other):
    """Return the end that two ends come to, None where there is none."""
    if word == "over" and other is None:
        return 0, 1
    if one is None or other is None:
        return None
    if word == "over" and other[0] == 0:
        return None
    return fraction_reached(word, one, other)


def _has_one_first_quotient(span):
    """Return True where the chains of all in a span have the same first quotient."""
    low, _, high, high_is_met = span
    if low is None or high is None:
        return False
    following = low[0] // low[1] + 1
    top, bottom = high
    return top < following * bottom or (top == following * bottom and not high_is_met)


def _one_over_rest(end, quotient):
    """Return 1 over what a quotient leaves of an end, None where it leaves nothing."""
    top, bottom = end
    rest = top - quotient * bottom
    if rest == 0:
        return None
    return bottom, rest
