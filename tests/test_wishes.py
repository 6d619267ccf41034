"""Wishes [6.2], texts of wishes [6.3], turned wishes [6.4], and wishes.py."""

import itertools
import random

from tests.helpers import CompanyTest
from tests.samples import (A, M, LONG_NUMBER, changed_texts, odd_things, random_board, random_number, random_wish,
                           random_wishes)
from tests.test_companies import bad_sets, sets
from tests.test_products import BAD_PRODUCTS, others
from tests.test_tables import slow_minor
from tests.test_words import BAD_SIZES
from twocompanies.boards import Board, filled
from twocompanies.drawing import backwards, straight, upside_down
from twocompanies.errors import BadParts, BadSets, BadSize, BadText, OtherSizes, Unfilled
from twocompanies.products import product_of, products
from twocompanies.sums import by_filling, number_of, plus, scaled, times
from twocompanies.tables import Table, table_of
from twocompanies.wishes import (Wish, filled_worth, one_product, whole, wish_backwards, wish_minus, wish_of, wish_plus,
                                 wish_times, wish_upside_down, worth, worth_at)

P, Q, R = products(2)
BAD_NUMBERS = [0, 1, True, None, "1", (1,), (1, 0), (1, -1), (True, 1), (1, True), [1, 1], (1, 1, 1), ("1", 1), (1, "1"), ()]


def reduced_by_hand(number):
    top, bottom = number
    for divisor in range(2, bottom + 1):
        while top % divisor == 0 and bottom % divisor == 0:
            top, bottom = top // divisor, bottom // divisor
    return top, bottom


def slow_worth(wish, table):
    """The worth of a wish at a table of sums, product by product."""
    found = ()
    for (rows, columns), number in wish.parts:
        other = slow_minor(table, others(wish.size, rows), others(wish.size, columns))
        found = plus(found, scaled(number, times(slow_minor(table, rows, columns), other)))
    return found


def random_table(seed, size):
    source = random.Random(seed)
    return Table(tuple(tuple((source.randint(-5, 5), source.randint(1, 4)) for _ in range(size)) for _ in range(size)))


class Making(CompanyTest):
    def test_sizes(self):
        for size in range(1, 7):
            self.gives((size, ()), lambda n: (Wish(n, ()).size, Wish(n, ()).parts), size)
        for size in BAD_SIZES:
            for call in (Wish, wish_of):
                self.raises(BadSize(size), call, size, ())
                self.raises(BadSize(size), call, size, None)
            self.raises(BadSize(size), whole, size)
            self.raises(BadSize(size), one_product, size, (0,), (0,))
            self.raises(BadSize(size), one_product, size, None, None)

    def test_no_tuple_of_parts(self):
        for parts in [None, True, 0, "", "1 0 | 0", [], [(P, (1, 1))], {}, {P: (1, 1)}, Wish(2, ()), M]:
            self.raises(BadParts(-1), Wish, 2, parts)
            self.raises(BadParts(-1), wish_of, 2, parts)

    def test_number_of_first_bad_part(self):
        good = (P, (1, 2))
        bad = [(thing, (1, 1)) for thing in BAD_PRODUCTS + [((0,), (2,)), ((0, 1, 2), (0, 1, 2))]]
        bad += [(Q, thing) for thing in BAD_NUMBERS] + [(Q,), (Q, (1, 1), 0), [Q, (1, 1)], Q, ((1, 1), Q)]
        for part in bad + odd_things():
            for call in (Wish, wish_of):
                self.raises(BadParts(0), call, 2, (part,))
                self.raises(BadParts(1), call, 2, (good, part))
                self.raises(BadParts(1), call, 2, (good, part, good, None))
        for zero in [(0, 1), (0, 5)]:
            self.raises(BadParts(0), Wish, 2, ((P, zero),))
            self.raises(BadParts(1), Wish, 2, (good, (Q, zero), (P, zero)))

    def test_order_of_parts(self):
        one = (1, 1)
        self.raises(BadParts(1), Wish, 2, ((P, one), (P, one)))
        self.raises(BadParts(1), Wish, 2, ((Q, one), (P, one)))
        self.raises(BadParts(2), Wish, 2, ((P, one), (R, one), (Q, one)))
        for size in (2, 3):
            for some in itertools.product(products(size)[:6], repeat=2):
                parts = tuple((product, one) for product in some)
                if some[0] < some[1]:
                    self.gives(parts, lambda n, given: Wish(n, given).parts, size, parts)
                else:
                    self.raises(BadParts(1), Wish, size, parts)

    def test_numbers_are_kept_without_common_divisors(self):
        wish = Wish(2, ((P, (4, 2)), (Q, (-6, 4)), (R, (LONG_NUMBER, 1))))
        self.gives(((P, (2, 1)), (Q, (-3, 2)), (R, (LONG_NUMBER, 1))), lambda some: some.parts, wish)
        self.assertEqual(wish, Wish(2, ((P, (2, 1)), (Q, (-3, 2)), (R, (LONG_NUMBER, 1)))))

    def test_length_and_equality(self):
        wish = Wish(2, ((P, (1, 2)), (R, (-1, 1))))
        self.assertEqual([len(Wish(2, ())), len(wish), len(wish_of(6, tuple((own, (1, 1)) for own in products(6))))], [0, 2, 462])
        self.assertIs(wish == Wish(2, ((P, (3, 6)), (R, (-2, 2)))), True)
        self.assertIs(wish != Wish(2, ((P, (3, 6)), (R, (-2, 2)))), False)
        near = [Wish(3, wish.parts[:1]), Wish(2, wish.parts[:1]), Wish(2, ()), Wish(2, ((P, (1, 2)), (R, (1, 1))))]
        for other in odd_things() + near + [wish.parts, (2, wish.parts), str(wish), 2, Board(2, ())]:
            self.assertIs(wish == other, False)
            self.assertIs(wish != other, True)
            self.assertIs(other == wish, False)
        self.assertIs(Wish(2, ()) == Wish(3, ()), False)
        self.assertIs(Wish(2, ()) == Board(2, ()), False)

    def test_by_name(self):
        self.assertEqual(Wish(parts=((P, (1, 1)),), size=2), wish_of(pairs=((P, (1, 1)),), size=2))
        self.assertEqual(one_product(columns=(0,), rows=(0,), size=2), Wish.read(text="wish 2\n1 0 | 0"))
        self.assertEqual(whole(size=2), wish_times(wish=one_product(2, (0, 1), (0, 1)), number=(1, 1)))
        self.assertEqual(wish_plus(other=whole(2), one=whole(2)), wish_times((2, 1), whole(2)))
        self.assertEqual(wish_minus(other=whole(2), one=whole(2)), Wish(2, ()))
        self.assertEqual(wish_backwards(wish=whole(2)), wish_upside_down(wish=whole(2)))
        self.assertEqual(worth(board=A, wish=whole(2)), (((), (1, 1)),))
        self.assertEqual(worth_at(table=Table((((3, 1),),)), wish=whole(1)), (3, 1))
        self.assertEqual(filled_worth(board=M, wish=whole(2)), (0, 1))


class Sums(CompanyTest):
    def test_sums_of_pairs(self):
        pairs = ((R, (1, 2)), (P, (0, 3)), (R, (1, 2)), (Q, (2, 4)), (Q, (-1, 2)), (P, (-3, 6)))
        self.gives(Wish(2, ((P, (-1, 2)), (R, (1, 1)))), wish_of, 2, pairs)
        self.gives(Wish(2, ()), wish_of, 2, ())
        self.gives(Wish(2, ()), wish_of, 2, ((P, (0, 1)), (Q, (0, 7))))
        source = random.Random(3)
        for size in range(1, 5):
            for _ in range(20):
                pairs = [(source.choice(products(size)), random_number(source)) for _ in range(8)]
                numbers = {}
                for product, (top, bottom) in pairs:
                    numbers[product] = numbers.get(product, 0) + top * (12 // bottom)
                wanted = tuple((own, reduced_by_hand((numbers[own], 12))) for own in sorted(numbers) if numbers[own])
                self.gives(Wish(size, wanted), wish_of, size, tuple(pairs))
                source.shuffle(pairs)
                self.gives(Wish(size, wanted), wish_of, size, tuple(pairs))

    def test_one_product(self):
        for size in range(1, 5):
            for rows, columns in sets(size):
                self.gives(Wish(size, ((product_of(size, rows, columns), (1, 1)),)), one_product, size, rows, columns)
        for rows, columns in bad_sets():
            self.raises(BadSets((rows, columns)), one_product, 2, rows, columns)

    def test_whole(self):
        for size in range(1, 7):
            self.gives(Wish(size, (((tuple(range(size)),) * 2, (1, 1)),)), whole, size)

    def test_plus_minus_times(self):
        for seed in range(40):
            size = 1 + seed % 4
            one, other, table = random_wish(seed, size, 5), random_wish(seed + 100, size, 5), random_table(seed, size)
            number = [(0, 3), (1, 1), (-1, 1), (4, 6), (-9, 6)][seed % 5]
            self.gives(wish_of(size, one.parts + other.parts), wish_plus, one, other)
            minus = tuple((product, (-top, bottom)) for product, (top, bottom) in other.parts)
            self.gives(wish_of(size, one.parts + minus), wish_minus, one, other)
            scaled_parts = tuple((own, (number[0] * top, number[1] * bottom)) for own, (top, bottom) in one.parts)
            self.gives(wish_of(size, scaled_parts), wish_times, number, one)
            self.gives(Wish(size, ()), wish_minus, one, one)
            left, right = worth_at(one, table), worth_at(other, table)
            both = reduced_by_hand((left[0] * right[1] + right[0] * left[1], left[1] * right[1]))
            self.gives(both, worth_at, wish_plus(one, other), table)
        self.gives(Wish(2, ()), wish_times, (0, 1), whole(2))

    def test_other_sizes(self):
        for one, other in [(whole(2), whole(3)), (Wish(2, ()), Wish(1, ())), (whole(6), Wish(5, ()))]:
            self.raises(OtherSizes(), wish_plus, one, other)
            self.raises(OtherSizes(), wish_minus, one, other)
        for board in [straight(1), straight(3), straight(9), Board(3, (("pass", 0, "a"),))]:
            self.raises(OtherSizes(), worth, whole(2), board)
            self.raises(OtherSizes(), filled_worth, whole(2), board)
        self.raises(OtherSizes(), worth_at, whole(2), random_table(1, 3))
        self.raises(OtherSizes(), worth_at, Wish(3, ()), random_table(1, 9))


class Texts(CompanyTest):
    def test_text(self):
        wish = Wish(3, ((((0,), (2,)), (1, 2)), (((0, 1), (0, 2)), (-3, 1)), (((0, 1, 2), (0, 1, 2)), (1, 1))))
        self.gives("wish 3\n1/2 0 | 2\n-3 0 1 | 0 2\n1 0 1 2 | 0 1 2", str, wish)
        self.gives("wish 6", str, Wish(6, ()))

    def test_texts_are_read_back(self):
        for wish in random_wishes(6, 12, 80) + [wish_of(6, tuple((own, (1, 3)) for own in products(6)))]:
            self.gives(wish, Wish.read, str(wish))
        self.gives(Wish(2, ((P, (-LONG_NUMBER, 6)),)), Wish.read, f"wish 2\n-{LONG_NUMBER}/6 0 | 0")

    def test_no_string(self):
        for thing in odd_things() + [whole(2), ("wish 2",), ["wish 2"], 2]:
            if not isinstance(thing, str):
                self.raises(BadText(0), Wish.read, thing)

    def test_first_line(self):
        for line in ["", " ", "wish", "wish ", "wish 0", "wish 7", "wish -1", "wish +1", "wish 01", "wish 2 ", " wish 2", "wish  2",
                     "Wish 2", "wish a", "wish 2/1", "board 2", "1 0 | 0", "size 2", "wish 2 3", "wish 1_0", "\n"]:
            self.raises(BadText(1), Wish.read, line)
            self.raises(BadText(1), Wish.read, line + "\nx")

    def test_lines_of_parts(self):
        bad = ["", " ", "1", "1 ", "1 0", "1 0 |", "1 0 | ", "1 | 0", "1  | 0", "1 | ", "1 |", "| 0", "0 | 0", "0 0 | 0", "-0 0 | 0",
               "2/4 0 | 0", "2/1 0 | 0", "1/0 0 | 0", "+1 0 | 0", "01 0 | 0", "1 00 | 0", "1 0 | 00", "1 -0 | 0", "1 1 | 0", "1 0 | 3",
               "1 0 | -1", "1 0 3 | 0 1", "1 0 1 | 0", "1 0 | 0 1", "1 0 1 | 1 0", "1 1 0 | 0 1", "1 0 0 | 0 1", "1 0  | 0",
               "1 0 |  0", "1 0|0", "1 0 | 0 ", " 1 0 | 0", "1 0 | 0 | 0", "1 0 || 0", "1 - | -", "1 0 | x", "x 0 | 0", "1 all | all",
               "wish 3", "1,0 | 0", "1/2/3 0 | 0", "1 0 ; 0", "1.5 0 | 0", "1 0 : 0", "1 0 | 0x", "1 0 1 2 | 0 1 2 3"]
        for line in bad:
            self.raises(BadText(2), Wish.read, "wish 3\n" + line)
            self.raises(BadText(2), Wish.read, "wish 3\n" + line + "\n1 0 | 1\n1 0 | 1")
            self.raises(BadText(4), Wish.read, "wish 3\n1 0 | 0\n-2/3 0 | 1\n" + line + "\n1 0 1 2 | 0 1 2")
        self.raises(BadText(3), Wish.read, "wish 2\n1 0 | 1\n1 0 | 1")
        self.raises(BadText(3), Wish.read, "wish 2\n1 0 | 1\n1 0 | 0")
        self.raises(BadText(4), Wish.read, "wish 2\n1 0 | 0\n1 0 1 | 0 1\n1 0 | 1")
        self.raises(BadText(2), Wish.read, "wish 2\n")
        self.raises(BadText(3), Wish.read, "wish 2\n1 0 | 0\n")

    def test_texts_changed_in_one_place(self):
        for wish in [Wish(3, ((((0,), (2,)), (5, 12)), (((0, 1), (0, 2)), (-3, 1)))), Wish(1, ((((0,), (0,)), (1, 1)),))]:
            for text in changed_texts(str(wish), "0123 \n-/|w"):
                lines = text.split("\n")
                first, kept = None, None
                for many in range(1, len(lines) + 1):
                    try:
                        kept = Wish.read("\n".join(lines[:many]))
                    except BadText as error:
                        first = error.line
                        self.assertEqual(first, many)
                        break
                if first is None:
                    self.assertEqual(str(kept), text)
                else:
                    self.raises(BadText(first), Wish.read, text)


class Turned(CompanyTest):
    def test_backwards(self):
        for size in range(1, 5):
            for rows, columns in sets(size):
                self.gives(one_product(size, columns, rows), wish_backwards, one_product(size, rows, columns))
        for seed, wish in enumerate(random_wishes(4, 6, 40)):
            self.gives(wish, lambda some: wish_backwards(wish_backwards(some)), wish)
            board = random_board(seed, wish.size, 5, ("a", "b"))
            self.gives(worth(wish, backwards(board)), lambda some, at: worth(wish_backwards(some), at), wish, board)

    def test_upside_down(self):
        for size in range(1, 5):
            for rows, columns in sets(size):
                turned = [tuple(sorted(size - 1 - place for place in places)) for places in (rows, columns)]
                self.gives(one_product(size, *turned), wish_upside_down, one_product(size, rows, columns))
        for seed, wish in enumerate(random_wishes(4, 6, 40)):
            self.gives(wish, lambda some: wish_upside_down(wish_upside_down(some)), wish)
            board = random_board(seed, wish.size, 5, ("a", "b"))
            self.gives(worth(wish, upside_down(board)), lambda some, at: worth(wish_upside_down(some), at), wish, board)

    def test_numbers_stay(self):
        wish = Wish(3, ((((0,), (1,)), (2, 3)), (((0,), (2,)), (-1, 1)), (((0, 1), (0, 2)), (5, 1))))
        back = Wish(3, ((((0, 1), (1, 2)), (-1, 1)), (((0, 2), (0, 1)), (5, 1)), (((0, 2), (1, 2)), (2, 3))))
        down = Wish(3, ((((0,), (1,)), (5, 1)), (((0, 1), (0, 2)), (2, 3)), (((0, 1), (1, 2)), (-1, 1))))
        self.gives(back, wish_backwards, wish)
        self.gives(down, wish_upside_down, wish)


class Worths(CompanyTest):
    def test_examples(self):
        self.gives((4, 1), filled_worth, one_product(2, (0,), (1,)), Board(2, (("meet", 0), ("meet", 0))))

    def test_against_minors(self):
        for seed, wish in enumerate(random_wishes(4, 6, 60)):
            board = random_board(seed, wish.size, 5, ("a", "b"))
            self.gives(slow_worth(wish, table_of(board)), worth, wish, board)
            table = random_table(seed, wish.size)
            self.gives(number_of(slow_worth(wish, table.sums())), worth_at, wish, table)
        for size in (5, 6):
            wish, table = random_wish(size, size, 12), random_table(size, size)
            self.gives(number_of(slow_worth(wish, table.sums())), worth_at, wish, table)

    def test_filled_boards(self):
        for seed, wish in enumerate(random_wishes(4, 6, 40)):
            board = random_board(seed, wish.size, 6, ("a", "b"))
            filling = (("a", (2, 3)), ("b", (5, 1)))
            wanted = number_of(by_filling(worth(wish, board), filling))
            self.gives(wanted, filled_worth, wish, filled(board, filling))
        self.gives((0, 1), filled_worth, Wish(2, ()), M)
        self.gives((), worth, Wish(2, ()), A)
        self.gives((0, 1), worth_at, Wish(2, ()), random_table(1, 2))

    def test_unfilled(self):
        board = Board(2, (("pass", 0, "b"), ("down", 0, "aa"), ("pass", 1, "ab")))
        self.raises(Unfilled("aa"), filled_worth, whole(2), board)
        self.raises(Unfilled("aa"), filled_worth, Wish(2, ()), board)
        self.raises(Unfilled("a"), filled_worth, whole(2), A)
        self.raises(OtherSizes(), filled_worth, whole(3), board)
        # The letter cannot be seen in the table, and still the board is not filled.
        self.raises(Unfilled("z"), filled_worth, whole(2), Board(2, (("pass", 0, "z"), ("pass", 0, (0, 1)))))

    def test_always_zero(self):
        wish = Wish(2, ((P, (1, 1)), (Q, (-1, 1)), (R, (-1, 1))))
        for seed in range(30):
            self.gives((), worth, wish, random_board(seed, 2, seed % 7, ("a", "b", "c")))
            self.gives((0, 1), worth_at, wish, random_table(seed, 2))
