"""Signed rows [7.4] and signedrows.py."""

import itertools
import random
from fractions import Fraction

from tests.helpers import CompanyTest
from tests.samples import random_wish, random_wishes
from tests.test_coordinates import no_pairings
from tests.test_pairings import slow_joined
from tests.test_wishes import random_table
from tests.test_words import slow_meeting
from twocompanies.coordinates import coordinates
from twocompanies.errors import BadPairing
from twocompanies.pairings import pairing_read, pairings, straight_pairing
from twocompanies.products import products
from twocompanies.signedrows import coordinates_by_rows, pairing_rows, rows_worth, signed_rows
from twocompanies.tables import Table
from twocompanies.wishes import Wish, one_product, whole, worth_at


def sign(order):
    return -1 if sum(1 for one, other in itertools.combinations(order, 2) if one > other) % 2 else 1


def slow_rows(wish):
    """The signed rows of a wish, by multiplying out its minors."""
    numbers = {}
    for order in itertools.permutations(range(wish.size)):
        for (rows, columns), (top, bottom) in wish.parts:
            one = [order[row] for row in rows]
            other = [order[row] for row in range(wish.size) if row not in rows]
            if sorted(one) == list(columns):
                numbers[order] = numbers.get(order, 0) + Fraction(top * sign(one) * sign(other), bottom)
    return tuple((order, (own.numerator, own.denominator)) for order, own in sorted(numbers.items()) if own)


def led_to(size, sequence):
    """The order that a sequence of exchanges leads to."""
    order = list(range(size))
    for k in sequence:
        one, other = order.index(k), order.index(k + 1)
        order[one], order[other] = k + 1, k
    return tuple(order)


def last_sequence(order):
    """A shortest sequence that leads to an order, read from behind: the greatest exchange that sorts is taken back."""
    found = []
    size = len(order)
    while order != tuple(range(size)):
        k = max(k for k in range(size - 1) if order.index(k) > order.index(k + 1))
        found.append(k)
        order = tuple({k: k + 1, k + 1: k}.get(column, column) for column in order)
    return tuple(reversed(found))


def multiplied_out(size, sequence):
    """The factors of the pairings when each exchange k stands for the pairing of the meeting k minus 1."""
    factors = {straight_pairing(size): 1}
    for k in sequence:
        more = {pairing: -own for pairing, own in factors.items()}
        for pairing, own in factors.items():
            made, rings = slow_joined(pairing, slow_meeting(size, k))
            more[made] = more.get(made, 0) + own * 2 ** rings
        factors = more
    return factors


class SignedRows(CompanyTest):
    def test_examples(self):
        self.gives((((1, 0), (1, 1)),), pairing_rows, pairing_read("()()"))
        self.gives((((0, 1), (1, 1)), ((1, 0), (-1, 1))), pairing_rows, pairing_read("(())"))
        self.assertEqual(led_to(3, (0, 1)), (2, 0, 1))

    def test_shortest_sequences_chosen_in_another_way(self):
        for size in range(1, 6):
            found = {pairing: [] for pairing in pairings(size)}
            for order in itertools.permutations(range(size)):
                sequence = last_sequence(order)
                self.assertEqual(led_to(size, sequence), order)
                self.assertEqual(len(sequence), sum(1 for a, b in itertools.combinations(order, 2) if a > b))
                for pairing, own in multiplied_out(size, sequence).items():
                    if own:
                        found[pairing].append((order, (own, 1)))
            for pairing in pairings(size):
                self.gives(tuple(sorted(found[pairing])), pairing_rows, pairing)

    def test_all_shortest_sequences_of_one_size(self):
        factors = {}
        for many in range(7):
            for sequence in itertools.product(range(3), repeat=many):
                order = led_to(4, sequence)
                if many == sum(1 for a, b in itertools.combinations(order, 2) if a > b):
                    known = {own: factor for own, factor in multiplied_out(4, sequence).items() if factor}
                    self.assertEqual(factors.setdefault(order, known), known)
        for pairing in pairings(4):
            wanted = tuple((order, (factors[order][pairing], 1)) for order in sorted(factors) if pairing in factors[order])
            self.gives(wanted, pairing_rows, pairing)

    def test_rows_of_wishes(self):
        for size in range(1, 5):
            for product in products(size):
                wish = Wish(size, ((product, (-2, 3)),))
                self.gives(slow_rows(wish), signed_rows, wish)
        for wish in random_wishes(4, 8, 40) + [random_wish(5, 5, 6)]:
            self.gives(slow_rows(wish), signed_rows, wish)
        for size in range(1, 5):
            self.gives((), signed_rows, Wish(size, ()))
            wanted = tuple((order, (sign(order), 1)) for order in itertools.permutations(range(size)))
            self.gives(wanted, signed_rows, whole(size))
        self.gives((((0, 1), (1, 1)),), signed_rows, one_product(2, (0,), (0,)))

    def test_rows_are_sums_of_those_of_pairings(self):
        for wish in random_wishes(4, 8, 30):
            numbers = {}
            for pairing, (top, bottom) in zip(pairings(wish.size), coordinates(wish)):
                for order, (own, _) in pairing_rows(pairing):
                    numbers[order] = numbers.get(order, 0) + Fraction(own * top, bottom)
            wanted = tuple((order, (own.numerator, own.denominator)) for order, own in sorted(numbers.items()) if own)
            self.gives(wanted, signed_rows, wish)

    def test_coordinates_from_rows(self):
        for size in range(1, 5):
            for product in products(size):
                wish = Wish(size, ((product, (1, 1)),))
                self.gives(coordinates(wish), coordinates_by_rows, wish)
        for wish in random_wishes(4, 12, 40) + [Wish(size, ()) for size in range(1, 5)]:
            self.gives(coordinates(wish), coordinates_by_rows, wish)

    def test_worth_of_rows(self):
        for seed, wish in enumerate(random_wishes(4, 8, 40)):
            table = random_table(seed, wish.size)
            rows = signed_rows(wish)
            found = Fraction(0)
            for order, number in rows:
                part = Fraction(*number)
                for row, column in enumerate(order):
                    part *= Fraction(*table.rows[row][column])
                found += part
            self.gives((found.numerator, found.denominator), rows_worth, rows, table)
            self.gives(worth_at(wish, table), rows_worth, rows, table)
        table = Table((((-1, 2), (3, 1)), ((5, 1), (-7, 3))))
        self.gives((15, 1), rows_worth, (((1, 0), (1, 1)),), table)
        self.gives((7 - 90, 6), rows_worth, (((0, 1), (2, 2)), ((1, 0), (-2, 2))), table)
        self.gives((0, 1), rows_worth, (), table)

    def test_numbers_of_rows_with_common_divisors(self):
        source = random.Random(6)
        rows = tuple((order, (4 * source.randint(1, 5), 6)) for order in itertools.permutations(range(3)))
        table = random_table(1, 3)
        lowest = tuple((order, (top // 2, 3)) for order, (top, bottom) in rows)
        self.gives(rows_worth(lowest, table), rows_worth, rows, table)

    def test_bad_pairings(self):
        for thing in no_pairings():
            self.raises(BadPairing(thing), pairing_rows, thing)

    def test_by_name(self):
        self.assertEqual(pairing_rows(pairing=straight_pairing(1)), signed_rows(wish=whole(1)))
        self.assertEqual(rows_worth(table=Table((((3, 1),),)), rows=signed_rows(whole(1))), (3, 1))
        self.assertEqual(coordinates_by_rows(wish=whole(1)), ((1, 1),))
