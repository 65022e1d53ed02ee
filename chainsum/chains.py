"""Chains and beginnings, the fractions that they tell, and the order of chains.

The texts of the refusals never show what was handed in: it may be of any kind, and Python
itself refuses to write out a number of very many figures.
"""

from chainsum.errors import BadChain, BadFraction


def is_chain(thing):
    """Return True where the thing is a chain: a list that tells a number in the one way there is."""
    if type(thing) is not list or len(thing) == 0:
        return False
    if not is_whole_number(thing[0]) or not _are_later_quotients(thing[1:]):
        return False
    return len(thing) == 1 or thing[-1] != 1


def is_begun(thing):
    """Return True where the thing is a beginning of the chain of a number above 0."""
    if type(thing) is not list:
        return False
    if len(thing) == 0:
        return True
    return is_whole_number(thing[0]) and thing[0] >= 0 and _are_later_quotients(thing[1:])


def is_chain_above_0(thing):
    """Return True where the thing is the chain of a number above 0."""
    # What stands behind a first quotient adds something from 0 to 1, so the first one tells, but for 0 alone.
    return is_chain(thing) and thing[0] >= 0 and thing != [0]


def fraction_of(chain):
    """Return the fraction that a chain tells, as (top, bottom) in lowest terms."""
    if not is_chain(chain):
        raise BadChain("a chain is asked for")
    return value_of(chain)


def chain_of(top, bottom):
    """Return the chain of a fraction, whose top and bottom may have a divisor in common."""
    if not is_whole_number(top) or not is_whole_number(bottom) or bottom < 1:
        raise BadFraction("two whole numbers are asked for, the bottom 1 or more")
    quotients = []
    while bottom != 0:
        quotient, rest = divmod(top, bottom)
        quotients.append(quotient)
        top, bottom = bottom, rest
    return quotients


def compared(one, other):
    """Return -1, 0 or 1, as the one chain's number is less than, the same as or greater than the other's."""
    if not is_chain(one):
        raise BadChain("the one is no chain")
    if not is_chain(other):
        raise BadChain("the other is no chain")
    place = _first_unlike_place(one, other)
    if place == len(one) and place == len(other):
        return 0
    # Each quotient but the first stands below one more line of a fraction, and that turns the order round.
    if _counts_as_greater(one, other, place) == (place % 2 == 0):
        return 1
    return -1


def is_whole_number(thing):
    """Return True where the thing is a whole number of Python's; True and False are none."""
    return type(thing) is int


def value_of(quotients):
    """Return what one quotient or more tell, as (top, bottom); the last of several may be 1, too."""
    top, bottom = 1, 0
    # From the last one, and by top and bottom alone: they are in lowest terms at each step.
    for quotient in reversed(quotients):
        top, bottom = quotient * top + bottom, top
    return top, bottom


def _are_later_quotients(things):
    """Return True where each thing may stand behind a first quotient."""
    for thing in things:
        if not is_whole_number(thing) or thing < 1:
            return False
    return True


def _first_unlike_place(one, other):
    """Return the first place at which two chains are unlike, or the length of both where they are alike."""
    shorter = min(len(one), len(other))
    for place in range(shorter):
        if one[place] != other[place]:
            return place
    return shorter


def _counts_as_greater(one, other, place):
    """Return True where the one has the greater quotient, at a place where they are unlike."""
    # A chain that is over counts as having a quotient greater than any.
    if place == len(one):
        return True
    return place < len(other) and one[place] > other[place]
