"""Fitting [7.1], coordinates [7.2], and coordinates.py."""

from fractions import Fraction

from tests.helpers import CompanyTest
from tests.samples import odd_things, random_board, random_wish, random_wishes
from tests.test_pairings import BAD, SEVEN
from tests.test_products import BAD_PRODUCTS
from tests.test_words import BAD_SIZES
from twocompanies.boards import Board
from twocompanies.coordinates import (colours, coordinate, coordinates, coordinates_by_boards, does_fit, fitting,
                                      masses)
from twocompanies.errors import BadPairing, BadProduct, BadSize
from twocompanies.pairings import (is_pairing, pairings, rim_of_column, rim_of_row, size_of, straight_pairing)
from twocompanies.products import products
from twocompanies.tables import Table
from twocompanies.wishes import (Wish, filled_worth, one_product, whole, wish_minus, wish_of, wish_plus, wish_times,
                                 worth, worth_at)
from twocompanies.words import told_boards

OPEN, NEST = pairings(2)


def slow_fit(product, pairing):
    """Whether a product fits, as [7.1] says it of companies: rows of one side of different ones, and so on."""
    size = len(pairing)
    rows, columns = product
    company = {rim_of_row(size, place): place in rows for place in range(size)}
    company.update({rim_of_column(size, place): place in columns for place in range(size)})
    for a, b in pairing:
        one_side = (a < size) == (b < size)
        if one_side != (company[a] != company[b]):
            return False
    return True


def no_pairings():
    """Values that are no pairings of any size."""
    found = BAD + odd_things() + [(), SEVEN, 2]
    return [thing for thing in found
            if not (isinstance(thing, tuple) and 1 <= len(thing) <= 6 and is_pairing(len(thing), thing))]


class Fitting(CompanyTest):
    def test_colours(self):
        self.gives(("dark", "light", "dark", "light"), colours, 2, ((0,), (0,)))
        self.gives(("dark", "light", "light", "dark"), colours, 2, ((0,), (1,)))
        self.gives(("dark", "dark", "light", "light"), colours, 2, ((0, 1), (0, 1)))
        for size in range(1, 6):
            for rows, columns in products(size):
                wanted = ["dark" if i in rows else "light" for i in range(size)]
                wanted += ["light" if j in columns else "dark" for j in range(size - 1, -1, -1)]
                self.gives(tuple(wanted), colours, size, (rows, columns))
                self.assertEqual(wanted.count("dark"), size)

    def test_fits(self):
        for size in range(1, 6):
            for product in products(size):
                wanted = tuple(pairing for pairing in pairings(size) if slow_fit(product, pairing))
                self.gives(wanted, fitting, size, product)
                for pairing in pairings(size)[::2]:
                    self.gives(slow_fit(product, pairing), does_fit, product, pairing)
        for product in products(6)[::40]:
            wanted = tuple(pairing for pairing in pairings(6) if slow_fit(product, pairing))
            self.gives(wanted, fitting, 6, product)
        self.gives((OPEN, NEST), fitting, 2, ((0,), (0,)))
        self.gives((OPEN,), fitting, 2, ((0,), (1,)))
        self.gives((NEST,), fitting, 2, ((0, 1), (0, 1)))

    def test_sizes_and_products_that_are_wrong(self):
        for call in (colours, fitting):
            for size in BAD_SIZES:
                self.raises(BadSize(size), call, size, ((0,), (0,)))
                self.raises(BadSize(size), call, size, None)
            for thing in BAD_PRODUCTS + odd_things():
                self.raises(BadProduct(thing), call, 3, thing)
            self.raises(BadProduct(((0,), (2,))), call, 2, ((0,), (2,)))

    def test_pairing_ahead_of_product(self):
        for thing in no_pairings():
            self.raises(BadPairing(thing), does_fit, ((0,), (0,)), thing)
            self.raises(BadPairing(thing), does_fit, None, thing)
        for thing in BAD_PRODUCTS + odd_things():
            self.raises(BadProduct(thing), does_fit, thing, OPEN)
            self.raises(BadProduct(thing), does_fit, thing, straight_pairing(6))
        self.raises(BadProduct(((0,), (2,))), does_fit, ((0,), (2,)), NEST)

    def test_by_name(self):
        self.assertTrue(does_fit(pairing=OPEN, product=((0,), (1,))))
        self.assertEqual(colours(product=((0,), (0,)), size=1), ("dark", "light"))
        self.assertEqual(fitting(product=((0,), (0,)), size=1), (((0, 1),),))
        self.assertEqual(coordinate(pairing=NEST, wish=whole(2)), (1, 1))
        self.assertEqual(coordinates(wish=whole(2)), coordinates_by_boards(wish=whole(2)))
        self.assertEqual(masses(wish=whole(2)), ((NEST, (1, 1)),))


class Coordinates(CompanyTest):
    def test_examples(self):
        for columns, wanted in [((0,), ((1, 1), (1, 1))), ((1,), ((1, 1), (0, 1)))]:
            for call in (coordinates, coordinates_by_boards):
                self.gives(wanted, call, one_product(2, (0,), columns))
        self.gives(((0, 1), (1, 1)), coordinates, whole(2))
        self.gives(((0, 1), (1, 1)), coordinates_by_boards, whole(2))

    def test_sums_of_numbers_that_fit(self):
        for wish in random_wishes(6, 9, 60):
            wanted = []
            for pairing in pairings(wish.size):
                number = sum((Fraction(*own) for product, own in wish.parts if slow_fit(product, pairing)), Fraction(0))
                wanted.append((number.numerator, number.denominator))
                if len(wanted) % 5 == 1:
                    self.gives(wanted[-1], coordinate, wish, pairing)
            self.gives(tuple(wanted), coordinates, wish)
            self.gives(tuple((pairing, own) for pairing, own in zip(pairings(wish.size), wanted) if own[0]), masses, wish)

    def test_alike_by_boards(self):
        for size in range(1, 5):
            for product in products(size):
                wish = Wish(size, ((product, (2, 3)),))
                self.gives(coordinates(wish), coordinates_by_boards, wish)
        for wish in random_wishes(5, 20, 40):
            self.gives(coordinates(wish), coordinates_by_boards, wish)
        for product in products(5)[::9]:
            wish = Wish(5, ((product, (1, 1)),))
            self.gives(coordinates(wish), coordinates_by_boards, wish)

    def test_worths_at_told_boards(self):
        for size in range(1, 7):
            wish = random_wish(size, size, 6)
            wanted = coordinates(wish)
            for at in range(0, len(wanted), 11):
                self.gives(wanted[at], filled_worth, wish, told_boards(size)[at])

    def test_empty_wish(self):
        for size in range(1, 7):
            self.gives(((0, 1),) * len(pairings(size)), coordinates, Wish(size, ()))
            self.gives((), masses, Wish(size, ()))
        self.gives(((0, 1), (0, 1)), coordinates_by_boards, Wish(2, ()))

    def test_masses_leave_out_zeros(self):
        wish = wish_of(2, ((((0,), (0,)), (1, 1)), (((0,), (1,)), (-1, 1))))
        self.gives(((NEST, (1, 1)),), masses, wish)
        self.gives(((0, 1), (1, 1)), coordinates, wish)
        always_zero = wish_minus(wish, whole(2))
        self.gives((), masses, always_zero)
        self.gives(((0, 1), (0, 1)), coordinates, always_zero)

    def test_equal_coordinates_are_equal_worths(self):
        wish = wish_minus(wish_minus(one_product(2, (0,), (0,)), one_product(2, (0,), (1,))), whole(2))
        for seed in range(20):
            self.gives((), worth, wish, random_board(seed, 2, 6, ("a", "b")))
        other = wish_plus(wish_times((1, 2), whole(2)), wish)
        table = Table((((-1, 2), (3, 1)), ((5, 1), (7, 3))))
        self.gives(worth_at(wish_times((1, 2), whole(2)), table), worth_at, other, table)
        self.gives(coordinates(wish_times((1, 2), whole(2))), coordinates, other)

    def test_bad_pairings(self):
        for thing in no_pairings():
            self.raises(BadPairing(thing), coordinate, whole(2), thing)
            self.raises(BadPairing(thing), coordinate, Wish(6, ()), thing)
        for size in range(1, 7):
            for pairing in pairings(size)[::20]:
                for other in range(1, 7):
                    if other != size:
                        self.raises(BadPairing(pairing), coordinate, whole(other), pairing)
                self.assertEqual(size_of(pairing), size)
        self.raises(BadPairing(Board(2, ())), coordinate, whole(2), Board(2, ()))
