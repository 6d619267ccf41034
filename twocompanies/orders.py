"""The order of products: one stays below another one if each pairing that it fits is fitted by the other one, too."""

from twocompanies.coordinates import are_parted, darkness
from twocompanies.pairings import is_pairing, need_pairing, need_size, pairings
from twocompanies.papers import is_paper
from twocompanies.products import is_product, need_product, products


class Fits:
    """For each product of a size the pairings that it fits, as the bits of an integer."""

    def __init__(self, size, some):
        kinds = pairings(size)
        self.bits = {}
        for product in some:
            dark = darkness(size, product)
            bits = 0
            for pairing in kinds:
                bits = 2 * bits + (1 if are_parted(dark, pairing) else 0)
            self.bits[product] = bits

    def stays_below(self, one, other):
        """Whether a product stays below another one."""
        return (self.bits[one] & self.bits[other]) == self.bits[one]

    def all_above(self, product):
        """The list of all products above this one, but not itself, in the order in which they were given."""
        return [other for other in self.bits if other != product and self.stays_below(product, other)]

    def all_below(self, product):
        """The list of all products below this one, but not itself, in the order in which they were given."""
        return [other for other in self.bits if other != product and self.stays_below(other, product)]

    def next_above(self, product):
        """The list of the products that are just above this one."""
        found = self.all_above(product)
        return [other for other in found if len([own for own in found if self.stays_below(own, other)]) == 1]

    def next_below(self, product):
        """The list of the products that are just below this one."""
        found = self.all_below(product)
        return [other for other in found if len([own for own in found if self.stays_below(other, own)]) == 1]


def need_products(size, some):
    """Raises BadSize, then BadProduct with the first of some values that is not a product of this size."""
    need_size(size)
    for product in some:
        need_product(size, product)


def does_stay_below(size, one, other):
    """Whether a product stays below another one."""
    need_products(size, (one, other))
    return Fits(size, (one, other)).stays_below(one, other)


def just_above(size, product):
    """The ascending tuple of the products that are just above this one."""
    need_products(size, (product,))
    return tuple(Fits(size, products(size)).next_above(product))


def just_below(size, product):
    """The ascending tuple of the products that are just below this one."""
    need_products(size, (product,))
    return tuple(Fits(size, products(size)).next_below(product))


def lowest(size):
    """The ascending tuple of the products of this size with no other product below them."""
    need_size(size)
    fits = Fits(size, products(size))
    return tuple([product for product in products(size) if fits.all_below(product) == []])


def highest(size):
    """The ascending tuple of the products of this size with no other product above them."""
    need_size(size)
    fits = Fits(size, products(size))
    return tuple([product for product in products(size) if fits.all_above(product) == []])


def bunch(pairing):
    """The ascending tuple of the products that fit a pairing."""
    need_pairing(pairing)
    size = len(pairing)
    return tuple([product for product in products(size) if are_parted(darkness(size, product), pairing)])


def shortest_chain(fits, one, other):
    """The first of the shortest chains from one to other, None if there is no chain.

    The chains of each length are tried in order, so the first one that leads to a product is the one to go on from.
    """
    chains = [(one,)]
    seen = {one: True}
    while chains != []:
        longer = []
        for chain in chains:
            if chain[-1] == other:
                return chain
            for product in fits.next_above(chain[-1]):
                if product not in seen:
                    seen[product] = True
                    longer.append(chain + (product,))
        chains = longer
    return None


def first_chain(size, one, other):
    """The first of the shortest chains from one product to another one, None if there is no chain."""
    need_products(size, (one, other))
    fits = Fits(size, products(size))
    # What is just above a product on the way to another one is found among those between the two.
    between = [own for own in products(size) if fits.stays_below(one, own) and fits.stays_below(own, other)]
    return shortest_chain(Fits(size, between), one, other) if between != [] else None


def fits_alone(size, one, other, pairing):
    """Whether one product fits a pairing and the other one does not."""
    return are_parted(darkness(size, one), pairing) and not are_parted(darkness(size, other), pairing)


def judge_order(size, one, other):
    """The paper that a product stays below another one, or that it does not."""
    need_products(size, (one, other))
    for pairing in pairings(size):
        if fits_alone(size, one, other, pairing):
            return ("not below", pairing)
    return ("below", first_chain(size, one, other))


def is_chain(size, one, other, thing):
    """Whether any value is a chain from one product to another one."""
    if not isinstance(thing, tuple) or not all([is_product(size, product) for product in thing]):
        return False
    if thing == () or thing[0] != one or thing[-1] != other:
        return False
    fits = Fits(size, products(size))
    for at in range(1, len(thing)):
        if thing[at] not in fits.next_above(thing[at - 1]):
            return False
    return True


def order_holds(size, one, other, thing):
    """Whether any value is a paper that a product stays below another one, or that it does not."""
    need_products(size, (one, other))
    if is_paper(thing, "below", 2):
        return is_chain(size, one, other, thing[1])
    if not is_paper(thing, "not below", 2) or not is_pairing(size, thing[1]):
        return False
    return fits_alone(size, one, other, thing[1])


def longest_chain(size):
    """How many products the longest chain has."""
    need_size(size)
    fits = Fits(size, products(size))
    longest = {}
    # What stays below a product has fewer products below itself, so it comes earlier.
    for _, product in sorted([(len(fits.all_below(own)), own) for own in products(size)]):
        longest[product] = 1 + max([0] + [longest[own] for own in fits.all_below(product)])
    return max(list(longest.values()))
