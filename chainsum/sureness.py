"""What is sure of the chain that two numbers come to, while they come themselves."""

from chainsum.chains import is_begun, is_chain_above_0
from chainsum.errors import BadChain, BadWord
from chainsum.reckoning import is_word, reckoned
from chainsum.spans import quotients_shared, span_of, span_reached


def sure(word, one, other):
    """Return (told, first, second): the sure quotients, and two pairs of chains that part right behind them."""
    if not is_word(word):
        raise BadWord("one of the four words is asked for")
    if not _is_coming(one):
        raise BadChain("the one is no number that comes")
    if not _is_coming(other):
        raise BadChain("the other is no number that comes")
    if one[1] and other[1]:
        return reckoned(word, one[0], other[0]), None, None
    told = quotients_shared(span_reached(word, span_of(one), span_of(other)))
    first, second = _pairs_that_part(word, one, other, len(told))
    return told, first, second


def _is_coming(thing):
    """Return True where the thing is a number that comes: a tuple (quotients, whole)."""
    if type(thing) is not tuple or len(thing) != 2:
        return False
    quotients, whole = thing
    if whole is True:
        return is_chain_above_0(quotients)
    return whole is False and is_begun(quotients)


def _pairs_that_part(word, one, other, place):
    """Return a pair for the least and one for the greatest that they come to, which part at this place."""
    large = 2
    while True:
        first, second = _pairs_near_ends(word, one, other, large)
        # Nothing there counts as unlike any quotient.
        if reckoned(word, *first)[place:place + 1] != reckoned(word, *second)[place:place + 1]:
            return first, second
        # They come as near to the ends as one likes, and there they part, or else more would be sure.
        large = large * large


def _pairs_near_ends(word, one, other, large):
    """Return a pair near the low end of what they come to, and one near its high end."""
    low, high = _chains_near_ends(one, large)
    other_low, other_high = _chains_near_ends(other, large)
    if word == "less" or word == "over":
        # What they come to is the less, the greater the other one is.
        return (low, other_high), (high, other_low)
    return (low, other_low), (high, other_high)


def _chains_near_ends(number, large):
    """Return two chains that a number stands for, near its low and its high end: the larger this is, the nearer."""
    quotients, is_whole = number
    if is_whole:
        return list(quotients), list(quotients)
    if len(quotients) == 0:
        return [0, large], [large]
    near = list(quotients)
    # An end that is met may be the only one that parts from all others.
    if not is_chain_above_0(near):
        near.append(large)
    far = quotients + [1, large]
    if len(quotients) % 2 == 1:
        return near, far
    return far, near
