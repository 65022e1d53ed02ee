"""The four words, and what two numbers that are whole come to."""

from chainsum.chains import chain_of, is_chain_above_0, value_of
from chainsum.errors import BadChain, BadWord

WORDS = ("plus", "less", "times", "over")


def reckoned(word, one, other):
    """Return the chain of what the numbers of two chains come to."""
    if not is_word(word):
        raise BadWord("one of the four words is asked for")
    if not is_chain_above_0(one):
        raise BadChain("the one is no chain of a number above 0")
    if not is_chain_above_0(other):
        raise BadChain("the other is no chain of a number above 0")
    top, bottom = fraction_reached(word, value_of(one), value_of(other))
    return chain_of(top, bottom)


def is_word(thing):
    """Return True where the thing is one of the four words."""
    # Asked first, as a thing of another kind might answer a comparison as it likes.
    return type(thing) is str and thing in WORDS


def fraction_reached(word, one, other):
    """Return what two fractions come to, as (top, bottom), perhaps not in lowest terms."""
    one_top, one_bottom = one
    top, bottom = other
    if word == "plus":
        return one_top * bottom + top * one_bottom, one_bottom * bottom
    if word == "less":
        return one_top * bottom - top * one_bottom, one_bottom * bottom
    if word == "times":
        return one_top * top, one_bottom * bottom
    return one_top * bottom, one_bottom * top
