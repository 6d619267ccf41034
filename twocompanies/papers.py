"""What papers consist of, read from any values."""

from twocompanies.boards import Board, is_filled
from twocompanies.numerals import reduced
from twocompanies.pairings import is_pairing
from twocompanies.values import is_number, is_pair


def is_paper(thing, kind, many):
    """Whether any value is a tuple of so many items that begins with this word."""
    return isinstance(thing, tuple) and len(thing) == many and thing[0] == kind


def is_filled_board(size, thing):
    """Whether any value is a filled board of this size."""
    return isinstance(thing, Board) and thing.size == size and is_filled(thing)


def masses_read(size, thing):
    """Pairs of ascending pairings of this size and numbers, these without common divisors; None for another value."""
    if not isinstance(thing, tuple):
        return None
    found = []
    for pair in thing:
        if not is_pair(pair) or not is_pairing(size, pair[0]) or not is_number(pair[1]):
            return None
        if found != [] and pair[0] <= found[-1][0]:
            return None
        found.append((pair[0], reduced(pair[1])))
    return tuple(found)


def bound_kept(bound):
    """A bound, which is None or a number, without a common divisor."""
    return None if bound is None else reduced(bound)


def is_bound(thing):
    """Whether any value is None or a number."""
    return thing is None or is_number(thing)
