"""Products [6.1] and products.py."""

import itertools

from tests.helpers import CompanyTest
from tests.samples import A, M, LONG_NUMBER, odd_things, random_boards
from tests.test_companies import bad_sets, sets
from tests.test_tables import SUMS, slow_minor
from tests.test_words import BAD_SIZES
from twocompanies.companies import companies
from twocompanies.errors import BadProduct, BadSets, BadSize
from twocompanies.products import is_product, other_company, product_of, product_worth, products
from twocompanies.sums import times
from twocompanies.tables import table_of

BAD_PRODUCTS = [((1,), (0,)), ((), ()), ((0,), ()), ((0,), (0, 1)), ((0, 0), (0, 1)), ((1, 0), (0, 1)), ((0, 1), (1, 0)),
                ((0,), (6,)), ((0,), (-1,)), ((0, 6), (0, 1)), ((False,), (0,)), ((0,), (False,)), ((0,), (True,)),
                ((0, True), (0, 1)), ([0], (0,)), ((0,), [0]), [(0,), (0,)], ((0,), (0,), (0,)), ((0,),), (0, 0), ("0", "0"),
                ((0,), None), (None, (0,)), ((0,), "0"), ((0,), (LONG_NUMBER,)), ("", ""), ({}, {}), (((0,), (0,)), (1, 1)),
                (((0,), (0,)),), (A, M), ((0,), A), (("0",), ("0",)), (((0,),), ((0,),)), (), 0, "0 | 0"]


def others(size, places):
    return tuple(sorted(set(range(size)) - set(places)))


class Products(CompanyTest):
    def test_examples(self):
        self.gives((((0,), (0,)), ((0,), (1,)), ((0, 1), (0, 1))), products, 2)
        self.gives(((0,), (1,)), product_of, 3, (1, 2), (0, 2))

    def test_all_of_a_size(self):
        for size, many in zip(range(1, 7), (1, 3, 10, 35, 126, 462)):
            found = products(size)
            self.assertEqual((type(found), len(found)), (tuple, many))
            wanted = tuple(sorted((rows, columns) for rows, columns in sets(size) if 0 in rows))
            self.gives(wanted, products, size)
            self.assertTrue(all(one < other for one, other in zip(found, found[1:])))
            self.assertTrue(all(is_product(size, product) for product in found))
        self.gives((((0,), (0,)),), products, 1)
        for size in BAD_SIZES:
            self.raises(BadSize(size), products, size)

    def test_is_product(self):
        for size in range(1, 5):
            some = [tuple(part) for many in range(4) for part in itertools.product(range(-1, size + 1), repeat=many)]
            right = set(products(size))
            for rows, columns in itertools.product(some[:40], some[::3]):
                self.gives((rows, columns) in right, is_product, size, (rows, columns))
        for size in range(1, 7):
            for thing in BAD_PRODUCTS + odd_things():
                self.gives(False, is_product, size, thing)
        self.gives(True, is_product, 6, ((0, 5), (2, 3)))
        self.gives(False, is_product, 5, ((0, 5), (2, 3)))

    def test_both_ways_to_write_a_product(self):
        for size in range(1, 6):
            for rows, columns in sets(size):
                wanted = (rows, columns) if 0 in rows else (others(size, rows), others(size, columns))
                self.gives(wanted, product_of, size, rows, columns)
                self.gives(wanted, product_of, size, others(size, rows), others(size, columns))
        self.gives(((0, 1, 2), (0, 1, 2)), product_of, 3, (), ())

    def test_errors_of_two_sets(self):
        for size in BAD_SIZES:
            self.raises(BadSize(size), product_of, size, (0,), (0,))
            self.raises(BadSize(size), product_of, size, None, None)
        for rows, columns in bad_sets():
            self.raises(BadSets((rows, columns)), product_of, 2, rows, columns)

    def test_other_company(self):
        for size in range(1, 6):
            for rows, columns in products(size):
                self.gives((others(size, rows), others(size, columns)), other_company, size, (rows, columns))
        self.gives(((), ()), other_company, 2, ((0, 1), (0, 1)))
        for size in BAD_SIZES:
            self.raises(BadSize(size), other_company, size, ((0,), (0,)))
            self.raises(BadSize(size), other_company, size, None)
        for thing in BAD_PRODUCTS + odd_things():
            self.raises(BadProduct(thing), other_company, 2, thing)
        self.raises(BadProduct(((0,), (2,))), other_company, 2, ((0,), (2,)))


class Worths(CompanyTest):
    def test_against_minors(self):
        tables = [SUMS] + [table_of(board) for board in random_boards(("a", "b"), 4, 5, 24)]
        for table in tables:
            size = len(table)
            for rows, columns in products(size):
                other = slow_minor(table, others(size, rows), others(size, columns))
                self.gives(times(slow_minor(table, rows, columns), other), product_worth, table, (rows, columns))

    def test_against_companies(self):
        for board in random_boards((), 3, 5, 20):
            if all(piece[0] == "meet" or piece[2] == (1, 1) for piece in board.pieces):
                for rows, columns in products(board.size):
                    one = len(companies(board, rows, columns))
                    other = len(companies(board, others(board.size, rows), others(board.size, columns)))
                    self.gives(((((), (one * other, 1)),) if one * other else ()), product_worth, table_of(board), (rows, columns))

    def test_bad_products(self):
        for thing in BAD_PRODUCTS + odd_things():
            self.raises(BadProduct(thing), product_worth, SUMS, thing)
            self.raises(BadProduct(thing), product_worth, table_of(A), thing)
        self.raises(BadProduct(((0, 2), (0, 1))), product_worth, table_of(A), ((0, 2), (0, 1)))

    def test_by_name(self):
        self.assertTrue(is_product(thing=products(size=1)[0], size=1))
        self.assertEqual(product_of(columns=(0,), rows=(1,), size=2), ((0,), (1,)))
        self.assertEqual(other_company(product=((0,), (0,)), size=2), ((1,), (1,)))
        self.assertEqual(product_worth(product=((0,), (0,)), table=table_of(M)), (((), (1, 1)),))
