"""Which pairings a product fits, and the coordinates of wishes."""

from twocompanies.errors import BadPairing
from twocompanies.numerals import number_plus
from twocompanies.pairings import is_pairing, need_pairing, need_size, pairings, rim_of_column
from twocompanies.products import need_product
from twocompanies.wishes import filled_worth
from twocompanies.words import told_boards


def darkness(size, product):
    """The list that tells for each rim place whether it is dark."""
    rows, columns = product
    found = [place in rows for place in range(2 * size)]
    for column in range(size):
        found[rim_of_column(size, column)] = column not in columns
    return found


def are_parted(dark, pairing):
    """Whether each pair has one dark and one light place."""
    return all([dark[a] != dark[b] for a, b in pairing])


def colours(size, product):
    """The tuple of the colours of all rim places."""
    need_size(size)
    need_product(size, product)
    return tuple(["dark" if is_dark else "light" for is_dark in darkness(size, product)])


def does_fit(product, pairing):
    """Whether a product fits a pairing."""
    need_pairing(pairing)
    need_product(len(pairing), product)
    return are_parted(darkness(len(pairing), product), pairing)


def fitting(size, product):
    """The ascending tuple of the pairings that a product fits."""
    need_size(size)
    need_product(size, product)
    dark = darkness(size, product)
    return tuple([pairing for pairing in pairings(size) if are_parted(dark, pairing)])


def coloured_parts(wish):
    """The list of the pairs of the darkness of a product of a wish and its number."""
    return [(darkness(wish.size, product), number) for product, number in wish.parts]


def coordinate_of(parts, pairing):
    """The sum of the numbers of the products that fit a pairing."""
    found = (0, 1)
    for dark, number in parts:
        if are_parted(dark, pairing):
            found = number_plus(found, number)
    return found


def coordinate(wish, pairing):
    """The coordinate of a wish in a pairing."""
    if not is_pairing(wish.size, pairing):
        raise BadPairing(pairing)
    return coordinate_of(coloured_parts(wish), pairing)


def coordinates(wish):
    """The tuple of the coordinates of a wish in all pairings."""
    parts = coloured_parts(wish)
    return tuple([coordinate_of(parts, pairing) for pairing in pairings(wish.size)])


def coordinates_by_boards(wish):
    """The coordinates of a wish, from its worths at the told boards."""
    return tuple([filled_worth(wish, board) for board in told_boards(wish.size)])


def masses(wish):
    """The ascending tuple of the pairs of a pairing and a coordinate that is not zero."""
    return tuple([(own, number) for own, number in zip(pairings(wish.size), coordinates(wish)) if number[0] != 0])
