"""The two ends between which the numbers lie that a beginning stands for."""

from chainsum.chains import is_begun, is_chain_above_0, value_of
from chainsum.errors import BadChain


def ends_of(begun):
    """Return (low, is_met, high, is_met) of a beginning: each end and whether it is met."""
    if not is_begun(begun):
        raise BadChain("a beginning is asked for")
    if len(begun) == 0:
        return (0, 1), False, None, False
    near = value_of(begun)
    near_is_met = is_chain_above_0(begun)
    far = value_of(begun[:-1] + [begun[-1] + 1])
    # A greater quotient at the places 0, 2, 4 and so on makes the number greater, at the others less.
    if len(begun) % 2 == 1:
        return near, near_is_met, far, False
    return far, False, near, near_is_met
