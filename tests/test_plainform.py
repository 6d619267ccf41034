"""Standing products [7.3] and plainform.py."""

import random

from tests.helpers import CompanyTest
from tests.samples import odd_things, random_board, random_number, random_wish, random_wishes
from tests.test_coordinates import no_pairings
from tests.test_products import BAD_PRODUCTS
from tests.test_wishes import BAD_NUMBERS, random_table
from tests.test_words import BAD_SIZES
from twocompanies.coordinates import coordinates, does_fit
from twocompanies.errors import BadCoordinates, BadPairing, BadProduct, BadSize
from twocompanies.pairings import is_above, pairing_read, pairings, straight_pairing
from twocompanies.plainform import (plain_form, relation, relations, standing_pairing, standing_product, wish_with)
from twocompanies.products import is_product, products
from twocompanies.wishes import Wish, one_product, whole, wish_minus, wish_of, wish_plus, wish_times, worth, worth_at


class Standing(CompanyTest):
    def test_examples(self):
        self.gives(((0,), (0,)), standing_product, pairing_read("()()"))
        self.gives(((0, 1), (0, 1)), standing_product, pairing_read("(())"))
        self.gives(((0, 1), (0, 2)), standing_product, pairing_read("(())()"))
        self.gives(((0, 2), (0, 1)), standing_product, pairing_read("()(())"))

    def test_rows_that_open_and_columns_that_close(self):
        for size in range(1, 7):
            found = []
            for pairing in pairings(size):
                opens = {a for a, b in pairing}
                rows = tuple(i for i in range(size) if i in opens)
                columns = tuple(j for j in range(size) if 2 * size - 1 - j not in opens)
                self.gives((rows, columns), standing_product, pairing)
                self.gives(pairing, standing_pairing, size, (rows, columns))
                self.assertTrue(is_product(size, (rows, columns)) and does_fit((rows, columns), pairing))
                found.append((rows, columns))
            self.assertEqual(len(set(found)), len(pairings(size)))
            for product in products(size):
                if product not in found:
                    self.gives(None, standing_pairing, size, product)
            self.gives((tuple(range(size)),) * 2, standing_product, straight_pairing(size))

    def test_all_others_that_fit_are_above(self):
        for size in range(1, 6):
            for pairing in pairings(size):
                for other in pairings(size):
                    if does_fit(standing_product(pairing), other):
                        self.assertTrue(is_above(other, pairing))

    def test_errors(self):
        for thing in no_pairings():
            self.raises(BadPairing(thing), standing_product, thing)
        for call in (standing_pairing, relation):
            for size in BAD_SIZES:
                self.raises(BadSize(size), call, size, ((0,), (0,)))
                self.raises(BadSize(size), call, size, None)
            for thing in BAD_PRODUCTS + odd_things():
                self.raises(BadProduct(thing), call, 3, thing)
            self.raises(BadProduct(((0,), (2,))), call, 2, ((0,), (2,)))
        for size in BAD_SIZES:
            self.raises(BadSize(size), relations, size)

    def test_by_name(self):
        self.assertEqual(standing_product(pairing=straight_pairing(1)), ((0,), (0,)))
        self.assertEqual(standing_pairing(product=((0,), (0,)), size=1), straight_pairing(1))
        self.assertEqual(plain_form(wish=whole(1)), wish_with(some=((1, 1),), size=1))
        self.assertEqual(relation(product=((0,), (1,)), size=2), relations(size=2)[0])


class PlainForms(CompanyTest):
    def check_standing_only(self, wish):
        for product, _ in wish.parts:
            self.assertIsNotNone(standing_pairing(wish.size, product))

    def test_examples(self):
        wish = one_product(2, (0,), (1,))
        self.gives(wish_minus(one_product(2, (0,), (0,)), whole(2)), plain_form, wish)
        self.gives((wish_plus(wish_minus(wish, one_product(2, (0,), (0,))), whole(2)),), relations, 2)

    def test_equal_worths(self):
        for seed, wish in enumerate(random_wishes(4, 8, 60)):
            form = plain_form(wish)
            self.check_standing_only(form)
            self.gives(form, plain_form, wish)
            self.gives(form, plain_form, form)
            self.gives(coordinates(wish), coordinates, form)
            board = random_board(seed, wish.size, 5, ("a", "b"))
            self.gives(worth(wish, board), worth, form, board)
            table = random_table(seed, wish.size)
            self.gives(worth_at(wish, table), worth_at, form, table)
        for size in (5, 6):
            wish, table = random_wish(size, size, 9), random_table(size, size)
            self.gives(worth_at(wish, table), worth_at, plain_form(wish), table)
            self.check_standing_only(plain_form(wish))

    def test_integers_only(self):
        for size in range(1, 6):
            for product in products(size):
                form = plain_form(Wish(size, ((product, (1, 1)),)))
                self.assertTrue(all(bottom == 1 for _, (_, bottom) in form.parts))
                if standing_pairing(size, product) is not None:
                    self.gives(Wish(size, ((product, (1, 1)),)), lambda: form)

    def test_wishes_with_coordinates(self):
        source = random.Random(4)
        for size in range(1, 7):
            for _ in range(6):
                many = len(pairings(size))
                some = tuple(source.choice([(0, 2), (1, 1), random_number(source), random_number(source)]) for _ in range(many))
                wish = wish_with(size, some)
                self.check_standing_only(wish)
                for (top, bottom), (kept, under) in zip(some, coordinates(wish)):
                    self.assertEqual(top * under, kept * bottom)
                self.gives(wish, wish_with, size, some)
                self.gives(wish, wish_with, size, coordinates(wish))
            self.gives(Wish(size, ()), wish_with, size, ((0, 5),) * many)
        self.gives(one_product(2, (0,), (0,)), wish_with, 2, ((3, 3), (2, 2)))

    def test_bad_coordinates(self):
        for size in BAD_SIZES:
            self.raises(BadSize(size), wish_with, size, ((1, 1),))
            self.raises(BadSize(size), wish_with, size, None)
        one = (1, 1)
        bad = [(), (one,), (one, one, one), [one, one], one, ((1, 1), [1, 1]), None, 2, "", {}, whole(2), (whole(2),) * 2]
        bad += [(one, number) for number in BAD_NUMBERS] + [(number, one) for number in BAD_NUMBERS]
        for some in bad + odd_things():
            if some not in [((1, 1), (1, 1))]:
                self.raises(BadCoordinates(some), wish_with, 2, some)
        self.raises(BadCoordinates((one,) * 131), wish_with, 6, (one,) * 131)
        self.raises(BadCoordinates((one,) * 133), wish_with, 6, (one,) * 133)

    def test_relations(self):
        for size in range(1, 6):
            wanted = []
            for product in products(size):
                wish = Wish(size, ((product, (1, 1)),))
                self.gives(wish_minus(wish, plain_form(wish)), relation, size, product)
                self.gives(((0, 1),) * len(pairings(size)), lambda n, own: coordinates(relation(n, own)), size, product)
                if standing_pairing(size, product) is None:
                    wanted.append(relation(size, product))
                    self.assertEqual(dict(wanted[-1].parts)[product], (1, 1))
                else:
                    self.gives(Wish(size, ()), relation, size, product)
            self.gives(tuple(wanted), relations, size)
            self.assertEqual(len(wanted), len(products(size)) - len(pairings(size)))
        self.gives((), relations, 1)

    def test_relations_are_worth_nothing(self):
        for seed in range(12):
            for some in relations(3):
                self.gives((), worth, some, random_board(seed, 3, 6, ("a", "b")))
                self.gives((0, 1), worth_at, some, random_table(seed, 3))

    def test_only_one_wish(self):
        for seed in range(20):
            one, other = random_wish(seed, 3, 6), random_wish(seed + 50, 3, 6)
            self.assertEqual(coordinates(one) == coordinates(other), plain_form(one) == plain_form(other))
            zero = wish_times((3, 2), relations(3)[seed % 5])
            self.gives(plain_form(one), plain_form, wish_plus(one, zero))
            self.gives(wish_of(3, plain_form(one).parts + plain_form(other).parts), plain_form, wish_plus(one, other))
