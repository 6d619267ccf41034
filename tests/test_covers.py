"""Covers [8.1], what they draw [8.2], told boards [8.4], and covers.py."""

import itertools

from tests.helpers import CompanyTest
from tests.samples import A, M, LONG_NUMBER, odd_things, random_board, random_boards
from tests.test_companies import weight_of
from tests.test_products import others
from twocompanies.boards import Board
from twocompanies.companies import companies
from twocompanies.coordinates import coordinates, does_fit
from twocompanies.covers import cover_drawing, cover_weight, covers, is_cover, loads
from twocompanies.drawing import backwards, behind, below, straight, upside_down
from twocompanies.errors import BadCover, TooMany
from twocompanies.pairings import (is_pairing, joined, pairing_backwards, pairing_below, pairing_upside_down, pairings,
                                   straight_pairing)
from twocompanies.products import products
from twocompanies.sums import plus, scaled, times
from twocompanies.wishes import Wish, worth
from twocompanies.words import board_of_word, told_board

MM = Board(2, (("meet", 0), ("meet", 0)))
MIXED = Board(3, (("down", 0, "a"), ("meet", 1), ("pass", 1, "b"), ("up", 0, (1, 2)), ("meet", 0), ("up", 1, (0, 1)), ("down", 1, (2, 3))))
SAMPLES = [A, M, MM, MIXED, straight(1), straight(4), Board(1, (("pass", 0, "a"), ("pass", 0, (0, 1))))]
SAMPLES += random_boards(("a", "b"), 4, 6, 40)


def slow_loads(board, cover):
    """The loads at all moments, None for what is no cover; piece by piece, as [8.1] says it."""
    now = [1] * board.size
    found = [tuple(now)]
    for piece, g in zip(board.pieces, cover):
        kind, k = piece[:2]
        if kind == "pass" and g != 0:
            return None
        if kind == "down":
            if g > now[k]:
                return None
            now[k], now[k + 1] = now[k] - g, now[k + 1] + g
        if kind == "up":
            if g > now[k + 1]:
                return None
            now[k], now[k + 1] = now[k] + g, now[k + 1] - g
        if kind == "meet":
            both = now[k] + now[k + 1]
            if both > 2 or g > both:
                return None
            now[k], now[k + 1] = g, both - g
        if max(now) > 2:
            return None
        found.append(tuple(now))
    return tuple(found) if now == [1] * board.size else None


def slow_covers(board):
    """All covers, in order, by trying all tuples of integers from 0 to 2."""
    return tuple(some for some in itertools.product(range(3), repeat=len(board)) if slow_loads(board, some) is not None)


def cover_of_ways(board, some):
    """The cover that ways give which together start from all rows and end at all columns."""
    found = []
    for number, piece in enumerate(board.pieces):
        kind, k = piece[:2]
        steps = [(way[number], way[number + 1]) for way in some]
        if kind == "down":
            found.append(steps.count((k, k + 1)))
        elif kind == "up":
            found.append(steps.count((k + 1, k)))
        else:
            found.append(sum(1 for _, after in steps if after == k) if kind == "meet" else 0)
    return tuple(found)


def pairs_of_companies(board):
    """A dict from each cover to a dict from products to the pairs of companies that give it."""
    found = {}
    for product in products(board.size):
        rows, columns = product
        others_of_product = companies(board, others(board.size, rows), others(board.size, columns))
        for one in companies(board, rows, columns):
            for other in others_of_product:
                cover = cover_of_ways(board, one + other)
                found.setdefault(cover, {}).setdefault(product, []).append(one + other)
    return found


def shares_of(board):
    """A dict from the pairings to the sums of the weights of their covers, with 2 for each ring."""
    found = {pairing: () for pairing in pairings(board.size)}
    for cover in covers(board, most=10 ** 6):
        weight = cover_weight(board, cover)
        pairing, rings = cover_drawing(board, cover)
        if weight is not None:
            found[pairing] = plus(found[pairing], scaled((2 ** rings, 1), (weight,)))
    return found


class Covers(CompanyTest):
    def test_examples(self):
        open_pairing, nest = pairings(2)
        self.gives(((0, 0), (1, 1)), covers, A)
        self.gives((open_pairing, 0), cover_drawing, A, (1, 1))
        self.gives((nest, 0), cover_drawing, A, (0, 0))
        self.gives(((("a", 1),), (1, 2)), cover_weight, A, (1, 1))
        self.gives(((0, 1), (1, 1), (2, 1)), covers, MM)
        self.gives([(open_pairing, 0), (open_pairing, 1), (open_pairing, 0)], lambda: [cover_drawing(MM, own) for own in covers(MM)])
        self.gives({open_pairing: (((), (4, 1)),), nest: ()}, shares_of, MM)
        self.gives(((1, 1), (0, 2), (1, 1)), loads, MM, (0, 1))

    def test_all_in_order(self):
        for board in SAMPLES:
            found = slow_covers(board)
            self.gives(found, covers, board)
            for cover in found:
                self.gives(True, is_cover, board, cover)
                self.gives(slow_loads(board, cover), loads, board, cover)
        self.gives(((),), covers, straight(5))
        self.gives(((0, 0),), covers, Board(1, (("pass", 0, "a"), ("pass", 0, (0, 1)))))
        self.gives(((1,),), covers, M)

    def test_most(self):
        for board in SAMPLES:
            found = covers(board)
            self.gives(found, covers, board, most=len(found))
            self.gives(found, covers, board, most=10 ** 30)
            self.raises(TooMany(len(found) - 1), covers, board, most=len(found) - 1)
            self.raises(TooMany(0), covers, board, most=0)
        two = (("down", 0, "a"), ("up", 0, "b"))
        great = below(Board(2, two * 3), Board(2, two * 3))
        self.assertEqual(len(covers(great)), len(covers(Board(2, two * 3))) ** 2)
        greater = below(Board(2, two * 5), Board(2, two * 5))
        self.raises(TooMany(3000), covers, greater)
        self.raises(TooMany(2999), covers, greater, most=2999)
        # A board of greatest size and length has very many covers, and it is told that they are too many.
        self.raises(TooMany(3000), covers, Board(9, tuple((kind, k, "a") for k in range(8) for kind in ("down", "up")) * 3))
        with self.assertRaises(TypeError):
            covers(A, 3000)

    def test_is_cover(self):
        for board in SAMPLES[:20]:
            right = set(slow_covers(board))
            for some in itertools.product(range(-1, 4), repeat=min(4, len(board))):
                cover = some + (1,) * (len(board) - len(some))
                self.gives(cover in right, is_cover, board, cover)
        bad = [(0, 1), (1, 0), (2, 2), (3, 3), (-1, -1), (1,), (1, 1, 1), (), (True, True), (1, True), (True, 1), (False, False), [1, 1],
               [0, 0], (1, [1]), ("1", "1"), "11", (1, None), None, 0, 1, {}, {0: 1}, A, ((1,), (1,)), (1, LONG_NUMBER), (A, 1), ((1, 1),)]
        for thing in bad + odd_things():
            if thing != (0, 0):
                self.gives(False, is_cover, A, thing)
                for call in (loads, cover_weight, cover_drawing):
                    self.raises(BadCover(thing), call, A, thing)
        for thing in odd_things() + [(0,), (2,), (True,), (1, 1), (), 1, [1]]:
            self.gives(False, is_cover, M, thing)
            for call in (loads, cover_weight, cover_drawing):
                self.raises(BadCover(thing), call, M, thing)
        self.gives(True, is_cover, straight(3), ())
        for thing in (None, [], (0,), ((),), "", 0, False):
            self.gives(False, is_cover, straight(3), thing)
            self.raises(BadCover(thing), cover_drawing, straight(3), thing)

    def test_bounds_of_loads(self):
        down, up = ("down", 0, "a"), ("up", 0, "a")
        # At most the load goes, no load is more than 2, and a crossroad takes at most two walkers.
        for cover, wanted in [((2, 2), False), ((1, 1), True), ((1, 2), False), ((0, 1), False), ((0, 0), True)]:
            self.gives(wanted, is_cover, Board(2, (down, up)), cover)
        board = Board(3, (down, ("down", 1, "b"), ("meet", 1), ("up", 1, "b"), up))
        self.gives(slow_covers(board), covers, board)
        self.gives(False, is_cover, board, (1, 0, 2, 0, 1))
        twice = Board(3, (down, ("down", 1, "b"), ("up", 1, "b"), up))
        self.gives(True, is_cover, twice, (1, 1, 1, 1))
        self.gives(False, is_cover, twice, (1, 2, 2, 1))
        both = Board(3, (down, ("up", 1, "c"), up, ("down", 1, "c")))
        self.gives(False, is_cover, both, (1, 1, 1, 1))
        two = Board(3, (("down", 1, "b"), down, ("down", 0, "d"), ("up", 0, "e"), up, ("up", 1, "b")))
        self.gives(slow_covers(two), covers, two)
        self.gives(True, is_cover, Board(2, (down, up, up, down)), (1, 2, 0, 1))
        self.gives((((1, 1), (0, 2), (2, 0), (2, 0), (1, 1))), loads, Board(2, (down, up, up, down)), (1, 2, 0, 1))


class Weights(CompanyTest):
    def test_weights(self):
        board = Board(2, (("down", 0, "a"), ("pass", 1, "b"), ("up", 0, (2, 3)), ("pass", 0, "c"), ("down", 0, "a")))
        self.gives(((("a", 2), ("b", 2), ("c", 2)), (4, 9)), cover_weight, board, (1, 0, 2, 0, 1))
        self.gives(((("b", 1), ("c", 1)), (1, 1)), cover_weight, board, (0, 0, 0, 0, 0))
        self.gives(((), (1, 1)), cover_weight, straight(3), ())
        self.gives(((), (1, 1)), cover_weight, MM, (2, 1))

    def test_zero(self):
        board = Board(2, (("down", 0, (0, 1)), ("pass", 0, (0, 5)), ("up", 0, (1, 1))))
        self.gives(None, cover_weight, board, (0, 0, 0))
        self.gives(None, cover_weight, board, (1, 0, 1))
        # No walker takes what weighs nothing: zero to the power of zero is 1.
        self.gives(((), (1, 1)), cover_weight, Board(2, (("down", 0, (0, 1)),)), (0,))
        lifted = Board(2, (("down", 0, "a"), ("pass", 0, (0, 1)), ("up", 0, "b")))
        self.gives(((("a", 1), ("b", 1)), (1, 1)), cover_weight, lifted, (1, 0, 1))
        self.gives(None, cover_weight, lifted, (0, 0, 0))


class Drawings(CompanyTest):
    def test_pairs_of_companies(self):
        """Two companies give each cover, in as many ways as [8.3] says, with the product of their weights."""
        for board in SAMPLES + [random_board(seed, 4, 7, ("a",)) for seed in range(50, 58)]:
            found = pairs_of_companies(board)
            self.assertEqual(sorted(found), list(covers(board)))
            for cover, pairs in found.items():
                pairing, rings = cover_drawing(board, cover)
                self.gives(True, is_pairing, board.size, pairing)
                weight = cover_weight(board, cover)
                for product in products(board.size):
                    some = pairs.get(product, [])
                    self.assertEqual(len(some), 2 ** rings if does_fit(product, pairing) else 0)
                    for own in some:
                        self.gives(() if weight is None else (weight,), weight_of, board, own)

    def test_rings(self):
        boards = [board_of_word(size, word) for size, word in [(2, (0, 0, 0, 0)), (3, (1, 0, 1, 0)), (3, (0, 0, 1, 1)), (4, (1, 0, 2, 1, 1))]]
        greatest = []
        for board in boards:
            found = pairs_of_companies(board)
            for cover in covers(board):
                pairing, rings = cover_drawing(board, cover)
                wanted = {product: 2 ** rings for product in products(board.size) if does_fit(product, pairing)}
                self.assertEqual({product: len(some) for product, some in found[cover].items()}, wanted)
            greatest.append(max(cover_drawing(board, cover)[1] for cover in covers(board)))
        self.assertEqual(greatest, [3, 0, 2, 1])

    def test_worths(self):
        """The fact of [7.2]: coordinates times shares."""
        boards = [random_board(seed, 2 + seed % 3, 8, ("a", "b")) for seed in range(16)]
        boards += [random_board(seed, 5, 12) for seed in (1, 2)]
        for board in boards:
            shares = shares_of(board)
            self.assertTrue(all(number[0] > 0 for some in shares.values() for _, number in some))
            for product in products(board.size)[::7]:
                wish = Wish(board.size, ((product, (1, 1)),))
                found = ()
                for pairing, number in zip(pairings(board.size), coordinates(wish)):
                    found = plus(found, scaled(number, shares[pairing]))
                self.gives(found, worth, wish, board)

    def test_told_boards(self):
        for size in range(1, 6):
            for pairing in pairings(size):
                board = told_board(pairing)
                self.gives(((1,) * len(board),), covers, board)
                self.gives((pairing, 0), cover_drawing, board, (1,) * len(board))
                self.gives(((1,) * size,) * (len(board) + 1), loads, board, (1,) * len(board))
                self.gives(((), (1, 1)), cover_weight, board, (1,) * len(board))

    def test_straight(self):
        for size in range(1, 7):
            self.gives((straight_pairing(size), 0), cover_drawing, straight(size), ())
            self.gives(((1,) * size,), loads, straight(size), ())

    def test_backwards(self):
        for board in SAMPLES:
            turned = []
            for cover in covers(board):
                course = loads(board, cover)
                back = [course[at][piece[1]] if piece[0] == "meet" else cover[at] for at, piece in enumerate(board.pieces)]
                back = tuple(reversed(back))
                turned.append(back)
                pairing, rings = cover_drawing(board, cover)
                self.gives((pairing_backwards(pairing), rings), cover_drawing, backwards(board), back)
                self.gives(cover_weight(board, cover), cover_weight, backwards(board), back)
                self.gives(tuple(reversed(course)), loads, backwards(board), back)
            self.gives(tuple(sorted(turned)), covers, backwards(board))

    def test_upside_down(self):
        for board in SAMPLES:
            turned = []
            for cover in covers(board):
                course = loads(board, cover)
                down = tuple(course[at + 1][piece[1] + 1] if piece[0] == "meet" else cover[at] for at, piece in enumerate(board.pieces))
                turned.append(down)
                pairing, rings = cover_drawing(board, cover)
                self.gives((pairing_upside_down(pairing), rings), cover_drawing, upside_down(board), down)
                self.gives(cover_weight(board, cover), cover_weight, upside_down(board), down)
                self.gives(tuple(own[::-1] for own in course), loads, upside_down(board), down)
            self.gives(tuple(sorted(turned)), covers, upside_down(board))

    def test_behind(self):
        for seed in range(20):
            size = 2 + seed % 3
            one, other = random_board(seed, size, 4, ("a",)), random_board(seed + 200, size, 4, ("b",))
            whole = behind(one, other)
            for first, second in itertools.product(covers(one)[:5], covers(other)[:5]):
                left, right = cover_drawing(one, first), cover_drawing(other, second)
                pairing, rings = joined(left[0], right[0])
                self.gives((pairing, rings + left[1] + right[1]), cover_drawing, whole, first + second)
                weights = [cover_weight(one, first), cover_weight(other, second)]
                weight = () if None in weights else times((weights[0],), (weights[1],))
                self.gives(weight[0] if weight else None, cover_weight, whole, first + second)
            found = [own for own in covers(whole) if loads(whole, own)[len(one)] == (1,) * size]
            self.assertEqual(found, list(itertools.starmap(tuple.__add__, itertools.product(covers(one), covers(other)))))

    def test_below(self):
        for seed in range(20):
            one, other = random_board(seed, 1 + seed % 3, 4, ("a",)), random_board(seed + 200, 1 + seed // 3 % 3, 4, ("b",))
            whole = below(one, other)
            wanted = tuple(first + second for first in covers(one) for second in covers(other))
            self.gives(wanted, covers, whole)
            for first, second in list(itertools.product(covers(one), covers(other)))[:12]:
                left, right = cover_drawing(one, first), cover_drawing(other, second)
                self.gives((pairing_below(left[0], right[0]), left[1] + right[1]), cover_drawing, whole, first + second)

    def test_by_name(self):
        self.assertEqual(covers(most=5, board=A), ((0, 0), (1, 1)))
        self.assertTrue(is_cover(thing=(1,), board=M))
        self.assertEqual(loads(cover=(1,), board=M), ((1, 1), (1, 1)))
        self.assertEqual(cover_weight(cover=(1,), board=M), ((), (1, 1)))
        self.assertEqual(cover_drawing(cover=(1,), board=M), (pairings(2)[0], 0))
