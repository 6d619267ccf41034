"""Shares of boards in pairings, and worths from them.

A standing product is worth the shares in the pairings that it fits, added up. All of these but its own one come
later in order. So the shares are found from worths, the last one first, and no covers are listed, of which
there may be very many.
"""

from twocompanies.boards import filled, letters_of
from twocompanies.checks import need_filled, need_one_size
from twocompanies.coordinates import coordinate, coordinates
from twocompanies.errors import BadPairing, SometimesBelow
from twocompanies.ever import first_below
from twocompanies.pairings import is_pairing, pairings
from twocompanies.plainform import standing_fits
from twocompanies.products import known_worth
from twocompanies.sums import minus, number_of, plus, scaled
from twocompanies.tables import table_of


def share(board, pairing):
    """The share of a board in a pairing, a sum."""
    if not is_pairing(board.size, pairing):
        raise BadPairing(pairing)
    return shares(board)[pairings(board.size).index(pairing)]


def shares(board):
    """The tuple of the shares of a board in all pairings."""
    fits = standing_fits(board.size)
    table = table_of(board)
    known = {}
    found = [()] * len(fits)
    for at in range(len(fits) - 1, -1, -1):
        product, fitted = fits[at]
        left = known_worth(table, product, known)
        for other in fitted:
            if other != at:
                left = minus(left, found[other])
        found[at] = left
    return tuple(found)


def filled_shares(board):
    """The tuple of the shares of a filled board in all pairings, as numbers."""
    need_filled(board)
    return tuple([number_of(some) for some in shares(board)])


def drawn(board):
    """The ascending tuple of the pairings that a board draws."""
    # No number in a share is below zero, so a share that is not zero is not zero for letters that are 1, either.
    ones = filled(board, tuple([(letter, (1, 1)) for letter in letters_of(board)]))
    return tuple([pairing for pairing, some in zip(pairings(board.size), shares(ones)) if some != ()])


def worth_by_shares(wish, board):
    """The worth of a wish at a board, a sum, from coordinates and shares."""
    need_one_size(wish, board)
    found = ()
    for number, some in zip(coordinates(wish), shares(board)):
        found = plus(found, scaled(number, some))
    return found


def is_nought_on(wish, board):
    """Whether a wish that is never below zero is worth zero at a board for all numbers above zero as its letters."""
    need_one_size(wish, board)
    pairing = first_below(wish)
    if pairing is not None:
        raise SometimesBelow(pairing)
    return all([coordinate(wish, own)[0] == 0 for own in drawn(board)])
