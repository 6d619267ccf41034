"""The order of products [10.1], sides [10.2], and orders.py."""

import time

from tests import slow
from tests.anything import random_things, some_changed
from tests.helpers import CompanyTest
from tests.samples import odd_things
from tests.test_coordinates import no_pairings
from tests.test_products import BAD_PRODUCTS
from tests.test_words import BAD_SIZES
from twocompanies.errors import BadPairing, BadProduct, BadSize
from twocompanies.ever import is_ever_at_least
from twocompanies.orders import (bunch, does_stay_below, first_chain, highest, judge_order, just_above, just_below,
                                 longest_chain, lowest, order_holds)
from twocompanies.pairings import pairings, straight_pairing
from twocompanies.products import products
from twocompanies.wishes import one_product

P, Q, R = products(2)


class Order:
    """The order of the products of a size, found a second time."""

    def __init__(self, size):
        self.size = size
        self.products = slow.all_products(size)
        self.fits = {product: slow.fits(product, size) for product in self.products}
        self.above = {one: [other for other in self.products if self.below(one, other) and one != other and not any(
            own not in (one, other) and self.below(one, own) and self.below(own, other) for own in self.products)] for one in self.products}

    def below(self, one, other):
        return self.fits[one] <= self.fits[other]

    def chains(self, one, other):
        """All chains from one to other."""
        if one == other:
            return [(one,)]
        return [(one,) + rest for own in self.above[one] if self.below(own, other) for rest in self.chains(own, other)]

    def right(self, one, other, thing):
        if slow.is_paper(thing, "not below", 2):
            return slow.is_pairing(self.size, thing[1]) and thing[1] in self.fits[one] - self.fits[other]
        if not slow.is_paper(thing, "below", 2) or type(thing[1]) is not tuple or not thing[1]:
            return False
        known = {repr(slow.strict_tuple(product)): product for product in self.products}
        chain = [known.get(repr(slow.strict_tuple(product))) for product in thing[1]]
        if None in chain or chain[0] != one or chain[-1] != other:
            return False
        return all(after in self.above[before] for before, after in zip(chain, chain[1:]))


ORDERS = {size: Order(size) for size in (1, 2, 3, 4)}


class Orders(CompanyTest):
    def test_examples(self):
        self.gives((Q, R), lowest, 2)
        self.gives((P,), highest, 2)
        self.gives(2, longest_chain, 2)
        self.gives(("not below", pairings(2)[1]), judge_order, 2, P, Q)
        self.gives(("below", (Q, P)), judge_order, 2, Q, P)
        for one, other, wanted in [(Q, P, True), (R, P, True), (Q, R, False), (R, Q, False), (P, Q, False), (P, P, True)]:
            self.gives(wanted, does_stay_below, 2, one, other)

    def test_whole_order(self):
        for size, order in ORDERS.items():
            self.assertEqual(order.products, list(products(size)))
            for one in order.products:
                self.gives(tuple(order.above[one]), just_above, size, one)
                self.gives(tuple(own for own in order.products if one in order.above[own]), just_below, size, one)
                for other in order.products[::1 if size < 4 else 3]:
                    self.gives(order.below(one, other), does_stay_below, size, one, other)
                    if size < 4:
                        wishes = one_product(size, *other), one_product(size, *one)
                        self.assertEqual(order.below(one, other), is_ever_at_least(*wishes))

    def test_lowest_and_highest(self):
        for size in range(1, 6):
            fits = {product: slow.fits(product, size) for product in products(size)}
            self.gives(tuple(own for own in fits if not any(fits[other] < fits[own] for other in fits)), lowest, size)
            self.gives(tuple(own for own in fits if not any(fits[other] > fits[own] for other in fits)), highest, size)

    def test_longest_chain(self):
        for size, order in ORDERS.items():
            best = {}
            for product in sorted(order.products, key=lambda own: len(order.fits[own])):
                best[product] = 1 + max((best[own] for own in order.products if product in order.above[own]), default=0)
            self.gives(max(best.values()), longest_chain, size)

    def test_first_chain(self):
        for size, order in ORDERS.items():
            for one in order.products[::1 if size < 4 else 2]:
                for other in order.products:
                    chains = order.chains(one, other) if order.below(one, other) else []
                    self.gives(min(chains, key=lambda chain: (len(chain), chain)) if chains else None, first_chain, size, one, other)
            for product in order.products:
                self.gives((product,), first_chain, size, product, product)

    def test_some_chains_are_longer_than_others(self):
        """Otherwise the shortest chains would not be told from others."""
        order = ORDERS[4]
        lengths = [{len(chain) for chain in order.chains(one, other)} for one in order.products for other in order.products if order.below(one, other)]
        many = [len(order.chains(one, other)) for one in order.products for other in order.products if order.below(one, other)]
        self.assertGreater(max(many), 1)
        self.assertGreater(max(max(own) for own in lengths), 2)

    def test_judge_order(self):
        for size, order in ORDERS.items():
            for one in order.products[::1 if size < 4 else 2]:
                for other in order.products:
                    alone = [pairing for pairing in pairings(size) if pairing in order.fits[one] - order.fits[other]]
                    wanted = ("not below", alone[0]) if alone else ("below", first_chain(size, one, other))
                    self.gives(wanted, judge_order, size, one, other)
                    self.gives(True, order_holds, size, one, other, wanted)

    def test_order_holds(self):
        for size, order in ORDERS.items():
            step = 1 if size < 4 else 4
            for one in order.products[::step]:
                for other in order.products[::step]:
                    for pairing in pairings(size):
                        thing = ("not below", pairing)
                        self.gives(pairing in order.fits[one] - order.fits[other], order_holds, size, one, other, thing)
                    if order.below(one, other):
                        for chain in order.chains(one, other):
                            self.gives(True, order_holds, size, one, other, ("below", chain))
                            self.gives(one == other, order_holds, size, other, one, ("below", chain))
                    self.gives(one == other, order_holds, size, one, other, ("below", (one,)))
                    self.gives(order.right(one, other, ("below", (one, other))), order_holds, size, one, other, ("below", (one, other)))
                    self.gives(False, order_holds, size, one, other, ("below", ()))
                    self.gives(False, order_holds, size, one, other, ("below", None))

    def test_leaps_are_no_chains(self):
        order = ORDERS[3]
        for one in order.products:
            for other in order.products:
                if order.below(one, other) and one != other and other not in order.above[one]:
                    self.gives(False, order_holds, 3, one, other, ("below", (one, other)))

    def test_changed_papers(self):
        for size, one, other in [(2, P, Q), (2, Q, P), (3, products(3)[3], products(3)[0]), (4, lowest(4)[0], highest(4)[0]),
                                 (4, products(4)[0], products(4)[9])]:
            for thing in some_changed(judge_order(size, one, other), 1, 150):
                self.gives(ORDERS[size].right(one, other, thing), order_holds, size, one, other, thing)

    def test_any_values(self):
        for thing in odd_things() + random_things(7, 200):
            for own in (thing, ("below", thing), ("below", (thing,)), ("below", (Q, thing)), ("not below", thing), (thing, (Q, P))):
                self.gives(ORDERS[2].right(Q, P, own), order_holds, 2, Q, P, own)
        self.gives(False, order_holds, 2, Q, P, ("below", [Q, P]))
        self.gives(False, order_holds, 2, Q, P, ("below", (((False,), (True,)), P)))

    def test_bunch(self):
        for size in range(1, 6):
            for pairing in pairings(size):
                wanted = tuple(product for product in products(size) if slow.does_fit(product, pairing))
                self.gives(wanted, bunch, pairing)
            for rows, columns in bunch(straight_pairing(size)):
                self.assertEqual(rows, columns)
            everything = (tuple(range(size)),) * 2
            self.assertEqual([pairing for pairing in pairings(size) if everything in bunch(pairing)], [straight_pairing(size)])
        for thing in no_pairings():
            self.raises(BadPairing(thing), bunch, thing)

    def test_bad_sizes(self):
        for size in BAD_SIZES:
            for call in (lowest, highest, longest_chain):
                self.raises(BadSize(size), call, size)
            for call in (just_above, just_below):
                self.raises(BadSize(size), call, size, None)
            for call in (does_stay_below, first_chain, judge_order):
                self.raises(BadSize(size), call, size, None, P)
            self.raises(BadSize(size), order_holds, size, P, None, None)

    def test_bad_products(self):
        good = ((0,), (0,))
        for thing in BAD_PRODUCTS + odd_things() + [((0,), (3,)), ((1,), (0,)), ((0, 1, 2, 3), (0, 1, 2, 3))]:
            for call in (just_above, just_below):
                self.raises(BadProduct(thing), call, 3, thing)
            for call in (does_stay_below, first_chain, judge_order):
                self.raises(BadProduct(thing), call, 3, thing, good)
                self.raises(BadProduct(thing), call, 3, good, thing)
                self.raises(BadProduct(thing), call, 3, thing, None)
            self.raises(BadProduct(thing), order_holds, 3, thing, None, None)
            self.raises(BadProduct(thing), order_holds, 3, good, thing, ("below", (good,)))
        self.raises(BadProduct(((0,), (1,))), does_stay_below, 1, ((0,), (1,)), P)

    def test_how_long_it_takes(self):
        start = time.monotonic()
        self.assertEqual(longest_chain(5), 5)
        for product in products(5)[::9]:
            does_stay_below(5, product, products(5)[0])
        for one in products(4)[::2]:
            for other in products(4)[::2]:
                self.assertTrue(order_holds(4, one, other, judge_order(4, one, other)))
        self.assertLess(time.monotonic() - start, 20)

    def test_by_name(self):
        self.assertTrue(does_stay_below(other=P, one=Q, size=2))
        self.assertEqual(just_above(product=Q, size=2), (P,))
        self.assertEqual(just_below(product=P, size=2), (Q, R))
        self.assertEqual((lowest(size=2), highest(size=2)), ((Q, R), (P,)))
        self.assertEqual(bunch(pairing=pairings(2)[1]), (P, R))
        self.assertEqual(first_chain(other=P, one=R, size=2), (R, P))
        self.assertTrue(order_holds(thing=judge_order(other=P, one=R, size=2), other=P, one=R, size=2))
        self.assertEqual(longest_chain(size=1), 1)
