"""Standing products, and the wishes that have no others."""

from twocompanies.coordinates import are_parted, coordinates, darkness
from twocompanies.errors import BadCoordinates
from twocompanies.numerals import number_plus, reduced
from twocompanies.pairings import need_pairing, need_size, pairings, pairs_of, text_of
from twocompanies.products import need_product, products
from twocompanies.values import is_number
from twocompanies.wishes import one_product, wish_minus, wish_of


def standing_of(pairing):
    """The rows that open and the columns that close."""
    size = len(pairing)
    text = text_of(pairing)
    rows = [place for place in range(size) if text[place] == "("]
    columns = [column for column in range(size) if text[2 * size - 1 - column] == ")"]
    return (tuple(rows), tuple(columns))


def standing_product(pairing):
    """The standing product of a pairing."""
    need_pairing(pairing)
    return standing_of(pairing)


def pairing_standing(size, product):
    """The pairing whose standing product a product is, None if there is none; its dark places open."""
    signs = ["(" if is_dark else ")" for is_dark in darkness(size, product)]
    return pairs_of("".join(signs))


def standing_pairing(size, product):
    """The pairing whose standing product a product is, None if there is none."""
    need_size(size)
    need_product(size, product)
    return pairing_standing(size, product)


def standing_fits(size):
    """For each pairing, in order, its standing product and the list of the numbers of the pairings that it fits."""
    found = []
    kinds = pairings(size)
    for pairing in kinds:
        product = standing_of(pairing)
        dark = darkness(size, product)
        found.append((product, [at for at, other in enumerate(kinds) if are_parted(dark, other)]))
    return found


def standing_wish(size, some, fits):
    """The wish with these coordinates that has standing products only.

    A pairing comes, in order, ahead of all others that are above it. So, once the standing products of the
    pairings before it are taken away, what is left of the coordinate in a pairing is the number of its own one.
    """
    left = [reduced(number) for number in some]
    parts = []
    for at, (product, fitted) in enumerate(fits):
        number = left[at]
        parts.append((product, number))
        for other in fitted:
            left[other] = number_plus(left[other], (-number[0], number[1]))
    return wish_of(size, tuple(parts))


def plain_form(wish):
    """The wish with standing products only that is equal in worth on every board."""
    return standing_wish(wish.size, coordinates(wish), standing_fits(wish.size))


def wish_with(size, some):
    """The wish with these coordinates that has standing products only."""
    need_size(size)
    fits = standing_fits(size)
    if not isinstance(some, tuple) or len(some) != len(fits) or not all([is_number(number) for number in some]):
        raise BadCoordinates(some)
    return standing_wish(size, some, fits)


def relation_of(size, product, fits):
    """A product minus its plain form."""
    wish = one_product(size, product[0], product[1])
    return wish_minus(wish, standing_wish(size, coordinates(wish), fits))


def relation(size, product):
    """A product, as a wish, minus its plain form."""
    need_size(size)
    need_product(size, product)
    return relation_of(size, product, standing_fits(size))


def relations(size):
    """The tuple of the relations of all products that are standing products of no pairing, in their order."""
    need_size(size)
    fits = standing_fits(size)
    return tuple([relation_of(size, own, fits) for own in products(size) if pairing_standing(size, own) is None])
