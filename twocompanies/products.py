"""Products of the minors of two companies."""

from twocompanies.checks import need_sets
from twocompanies.errors import BadProduct
from twocompanies.pairings import need_size
from twocompanies.sums import times
from twocompanies.tables import known_minor
from twocompanies.values import are_sets, is_pair, other_places, sets_of


def is_product(size, thing):
    """Whether any value is a product of this size."""
    if not is_pair(thing) or not are_sets(size, thing[0], thing[1]):
        return False
    return 0 in thing[0]


def need_product(size, product):
    """Raises BadProduct for any value that is not a product of this size."""
    if not is_product(size, product):
        raise BadProduct(product)


def products(size):
    """The ascending tuple of all products of this size."""
    need_size(size)
    found = []
    for many in range(1, size + 1):
        sets = sets_of(size, many)
        found.extend([(rows, columns) for rows in sets for columns in sets if 0 in rows])
    return tuple(sorted(found))


def others_of(size, rows, columns):
    """The rows and the columns of the other company."""
    return (other_places(size, rows), other_places(size, columns))


def product_of(size, rows, columns):
    """The product of two sets, written with the company whose rows contain 0."""
    need_size(size)
    need_sets(size, rows, columns)
    return (rows, columns) if 0 in rows else others_of(size, rows, columns)


def other_company(size, product):
    """The pair of the other rows and the other columns."""
    need_size(size)
    need_product(size, product)
    return others_of(size, product[0], product[1])


def known_worth(table, product, known):
    """The worth of a product at a table; known keeps the minors that were found before."""
    rows, columns = product
    other_rows, other_columns = others_of(len(table), rows, columns)
    return times(known_minor(table, rows, columns, known), known_minor(table, other_rows, other_columns, known))


def product_worth(table, product):
    """The worth of a product at a table of sums."""
    need_product(len(table), product)
    return known_worth(table, product, {})
