"""Checks of arguments that several modules make."""

from twocompanies.boards import letters_of
from twocompanies.errors import BadSets, OtherSizes, Unfilled
from twocompanies.values import are_sets


def need_one_size(one, other):
    """Raises OtherSizes for two objects of different sizes."""
    if one.size != other.size:
        raise OtherSizes()


def need_sets(size, rows, columns):
    """Raises BadSets for what are not two sets with equally many places."""
    if not are_sets(size, rows, columns):
        raise BadSets((rows, columns))


def need_filled(board):
    """Raises Unfilled with the least letter of a board that has letters."""
    letters = letters_of(board)
    if letters != ():
        raise Unfilled(letters[0])
