"""The refusals."""


class ChainError(ValueError):
    """Any refusal."""


class BadChain(ChainError):
    """What was handed in is no chain, no beginning or no number that comes, where one is asked for."""


class BadFraction(ChainError):
    """What was handed in is no top and bottom of a fraction."""


class BadWord(ChainError):
    """What was handed in is none of the four words."""


class BadQuotient(ChainError):
    """What was handed in is no quotient that can come there."""


class Ended(ChainError):
    """The number is whole already."""
