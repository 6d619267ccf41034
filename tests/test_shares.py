"""Shares [8.3], told boards [8.4], drawn pairings [8.5], boards put together [8.6], and shares.py."""

import random
import time

from tests.helpers import CompanyTest
from tests.samples import A, M, odd_things, random_board, random_boards, random_wish, random_wishes
from tests.test_coordinates import no_pairings
from tests.test_covers import MIXED, MM, SAMPLES, shares_of
from twocompanies.boards import Board, filled
from twocompanies.coordinates import coordinates
from twocompanies.covers import cover_drawing, cover_weight, covers
from twocompanies.drawing import backwards, behind, below, straight, upside_down
from twocompanies.errors import BadPairing, OtherSizes, SometimesBelow, Unfilled
from twocompanies.pairings import pairing_backwards, pairing_below, pairing_upside_down, pairings, straight_pairing
from twocompanies.shares import drawn, filled_shares, is_nought_on, share, shares, worth_by_shares
from twocompanies.sums import by_filling, is_sum, number_of, sum_text, times
from twocompanies.wishes import Wish, one_product, whole, wish_minus, wish_of, wish_times, worth
from twocompanies.words import told_board

OPEN, NEST = pairings(2)
ONE = (((), (1, 1)),)
MANY_COVERS = [
    "board 4;down 1 d;up 1 e;down 1 g;up 1 h;up 1 a;up 1 f;down 1 a;up 1 c;down 1 654821/745023;up 1 b;up 1 g;down 1 356798/666427",
    "board 5;down 0 a;down 2 f;up 0 d;down 0 f;up 2 h;down 2 a;up 0 d;down 0 g;up 2 f;meet 2;down 2 g;meet 2",
    "board 3;up 1 h;up 1 e;down 1 a;down 1 c;up 1 c;down 1 d;down 1 d;up 1 h;down 1 b;up 1 a;down 1 f;up 1 c",
]


class Shares(CompanyTest):
    def test_examples(self):
        self.gives(((((("a", 1),), (1, 2)),), ONE), shares, A)
        self.assertEqual([sum_text(some) for some in shares(A)], ["1/2*a", "1"])
        self.gives(((((), (4, 1)),), ()), shares, MM)
        self.gives(((4, 1), (0, 1)), filled_shares, MM)
        self.gives((OPEN,), drawn, M)
        self.gives(True, is_nought_on, whole(2), M)

    def test_by_covers(self):
        """Shares are the weights of covers with 2 for each ring, in the order of the pairings."""
        boards = SAMPLES + [random_board(seed, 2 + seed % 4, 8, ("a", "b", "c")) for seed in range(40)]
        boards += [random_board(seed, 5, 12, "abcdefgh") for seed in range(10)] + [straight(5), MIXED]
        for board in boards:
            wanted = shares_of(board)
            self.gives(tuple(wanted[pairing] for pairing in pairings(board.size)), shares, board)
            for pairing in pairings(board.size)[::3]:
                self.gives(wanted[pairing], share, board, pairing)
            self.assertTrue(all(is_sum(some) for some in shares(board)))
            self.assertTrue(all(number[0] > 0 for some in shares(board) for _, number in some))

    def test_share_bad_pairing(self):
        for thing in no_pairings():
            self.raises(BadPairing(thing), share, M, thing)
            self.raises(BadPairing(thing), share, straight(5), thing)
        for size in range(1, 6):
            for other in range(1, 7):
                if size != other:
                    thing = straight_pairing(other)
                    self.raises(BadPairing(thing), share, Board(size, (("pass", 0, "a"),)), thing)
        self.gives((), share, M, NEST)
        self.gives(ONE, share, straight(4), straight_pairing(4))

    def test_filled_shares(self):
        for board in random_boards(most_size=5, most_pieces=8):
            self.gives(tuple(number_of(some) for some in shares(board)), filled_shares, board)
        self.gives(((0, 1), (1, 1)), filled_shares, straight(2))
        self.gives(((0, 1), (0, 1)), filled_shares, Board(2, (("pass", 1, (0, 1)),)))
        for letters in [("b", "a"), ("a", "b"), ("ab", "b", "aa", "z"), ("zz", "z")]:
            board = Board(2, tuple(("down", 0, letter) for letter in letters))
            self.raises(Unfilled(min(letters)), filled_shares, board)
        # The letter is on the board, though no share has it.
        self.raises(Unfilled("q"), filled_shares, Board(2, (("pass", 0, (0, 1)), ("pass", 0, "q"))))

    def test_letters_and_fillings(self):
        for seed in range(20):
            board = random_board(seed, 2 + seed % 3, 6, ("a", "b"))
            filling = (("a", (seed, 3)), ("b", (2, 1 + seed)))
            wanted = tuple(by_filling(some, filling) for some in shares(board))
            self.gives(wanted, shares, filled(board, filling))

    def test_drawn(self):
        for board in SAMPLES + random_boards(("a", "b"), 5, 8, 40):
            wanted = {cover_drawing(board, cover)[0] for cover in covers(board, most=10 ** 6) if cover_weight(board, cover) is not None}
            self.gives(tuple(sorted(wanted)), drawn, board)
        zero = Board(2, (("down", 0, (0, 1)), ("up", 0, "a")))
        self.gives((NEST,), drawn, zero)
        self.gives((OPEN, NEST), drawn, A)
        self.gives((), drawn, Board(2, (("pass", 0, (0, 7)),)))
        self.gives((), drawn, Board(2, (("pass", 0, (0, 7)), ("pass", 1, "a"))))
        # Two walkers on the same way leave the other one, of weight 0, alone; 0 to the power 0 is 1.
        around = Board(2, (("up", 0, (1, 1)), ("pass", 1, (0, 1)), ("down", 0, (2, 1))))
        self.gives((OPEN,), drawn, around)
        self.gives(((2, 1), (0, 1)), filled_shares, around)
        for size in range(1, 6):
            self.gives((straight_pairing(size),), drawn, straight(size))

    def test_worth_by_shares(self):
        boards = [random_board(seed, 1 + seed % 5, 7, ("a", "b") if seed % 2 else ()) for seed in range(30)]
        boards += [Board(3, (("meet", 0), ("pass", 1, (0, 1)), ("meet", 1))), straight(4), MIXED]
        for number, board in enumerate(boards):
            wish = random_wish(number, board.size, 9)
            self.gives(worth(wish, board), worth_by_shares, wish, board)
            self.gives((), worth_by_shares, Wish(board.size, ()), board)
            self.gives(worth(whole(board.size), board), worth_by_shares, whole(board.size), board)

    def test_told_boards(self):
        for size in range(1, 6):
            for at, pairing in enumerate(pairings(size)):
                numbers = [(0, 1)] * len(pairings(size))
                numbers[at] = (1, 1)
                self.gives(tuple(numbers), filled_shares, told_board(pairing))
                self.gives((pairing,), drawn, told_board(pairing))
                self.gives(ONE, share, told_board(pairing), pairing)

    def test_put_together(self):
        for seed in range(24):
            one, other = random_board(seed, 1 + seed % 3, 4, ("a",)), random_board(seed + 99, 1 + seed % 2, 4, ("b",))
            whole_board = below(one, other)
            wanted = {pairing: () for pairing in pairings(whole_board.size)}
            for first in pairings(one.size):
                for second in pairings(other.size):
                    wanted[pairing_below(first, second)] = times(share(one, first), share(other, second))
            self.gives(tuple(wanted.values()), shares, whole_board)

    def test_turned(self):
        for board in SAMPLES:
            for pairing in pairings(board.size):
                self.gives(share(board, pairing_backwards(pairing)), share, backwards(board), pairing)
                self.gives(share(board, pairing_upside_down(pairing)), share, upside_down(board), pairing)

    def test_is_nought_on(self):
        for seed in range(60):
            size = 1 + seed % 4
            board = random_board(seed, size, 6, ("a", "b"))
            wish = random_wish(seed, size, 5)
            below_zero = [pairing for pairing, own in zip(pairings(size), coordinates(wish)) if own[0] < 0]
            if below_zero:
                self.raises(SometimesBelow(below_zero[0]), is_nought_on, wish, board)
                continue
            found = worth(wish, board)
            self.gives(found == (), is_nought_on, wish, board)
            self.gives(number_of(by_filling(found, (("a", (2, 1)), ("b", (3, 7))))) == (0, 1), is_nought_on, wish, board)
        self.gives(True, is_nought_on, whole(2), Board(2, (("pass", 0, (0, 1)),)))
        self.gives(False, is_nought_on, whole(2), A)
        self.gives(True, is_nought_on, one_product(2, (0,), (1,)), straight(2))
        self.gives(True, is_nought_on, Wish(2, ()), A)
        # Zero only for a = 0, which is not above zero.
        self.gives(False, is_nought_on, one_product(2, (0,), (1,)), A)

    def test_first_pairing_below(self):
        wish = wish_times((-1, 1), one_product(3, (0,), (0,)))
        first = [pairing for pairing, own in zip(pairings(3), coordinates(wish)) if own[0] < 0][0]
        self.raises(SometimesBelow(first), is_nought_on, wish, straight(3))
        self.raises(SometimesBelow(NEST), is_nought_on, wish_times((-1, 9), whole(2)), M)
        self.raises(SometimesBelow(OPEN), is_nought_on, wish_minus(whole(2), one_product(2, (0,), (0,))), Board(2, (("pass", 0, (0, 1)),)))

    def test_other_sizes_first(self):
        minus = wish_times((-1, 1), whole(3))
        for board in [A, straight(2), straight(4), Board(2, (("pass", 0, "z"),))]:
            self.raises(OtherSizes(), is_nought_on, minus, board)
            self.raises(OtherSizes(), is_nought_on, whole(3), board)
            self.raises(OtherSizes(), worth_by_shares, minus, board)

    def test_nothing_is_changed(self):
        board, wish = Board(3, MIXED.pieces), random_wish(1, 3, 6)
        for call in (worth_by_shares, worth):
            call(wish, board)
        drawn(board)
        self.assertEqual((board, wish), (Board(3, MIXED.pieces), random_wish(1, 3, 6)))

    def test_at_the_limits(self):
        """Boards with twelve pieces, some with nearly 3,000 covers."""
        meets = tuple(("meet", k) for k in (0, 1, 0, 1, 2, 2, 3, 3))
        slants = tuple((("down", "up")[at % 2], at % 4, "abcdefgh"[at % 8]) for at in range(12))
        source = random.Random(1)
        boards = [Board(5, tuple(source.sample(meets + slants, 12))) for _ in range(10)] + [Board(5, slants)]
        boards += [Board.read(text.replace(";", "\n")) for text in MANY_COVERS]
        start = time.monotonic()
        for board in boards:
            found = shares(board)
            drawn(board)
            worth_by_shares(whole(board.size), board)
            self.assertEqual(len(found), len(pairings(board.size)))
        self.assertLess(time.monotonic() - start, 20)
        for board in boards[-3:]:
            self.assertGreater(len(covers(board)), 2900)
            self.assertEqual(dict(zip(pairings(board.size), shares(board))), shares_of(board))

    def test_longer_boards(self):
        """More covers than anybody lists."""
        board = Board(4, (("down", 0, (1, 1)), ("up", 1, (1, 1)), ("down", 2, (1, 1)), ("meet", 1), ("up", 0, (1, 1)), ("up", 2, (1, 1))) * 10)
        wish = random_wish(3, 4, 6)
        self.gives(worth(wish, board), worth_by_shares, wish, board)
        self.assertEqual(len(filled_shares(board)), 14)

    def test_behind_itself(self):
        for wish in random_wishes(3, 4, 20):
            board = behind(random_board(7, wish.size, 4, ("a",)), random_board(8, wish.size, 4, ("a",)))
            self.gives(worth(wish, board), worth_by_shares, wish, board)

    def test_by_name(self):
        self.assertEqual(share(pairing=NEST, board=straight(2)), ONE)
        self.assertEqual(shares(board=straight(2)), ((), ONE))
        self.assertEqual(filled_shares(board=straight(2)), ((0, 1), (1, 1)))
        self.assertEqual(drawn(board=straight(2)), (NEST,))
        self.assertEqual(worth_by_shares(board=A, wish=whole(2)), ONE)
        self.assertFalse(is_nought_on(board=A, wish=whole(2)))

    def test_odd_pairings(self):
        for thing in odd_things():
            self.raises(BadPairing(thing), share, A, thing)
        self.raises(BadPairing([list(pair) for pair in OPEN]), share, A, [list(pair) for pair in OPEN])
        self.raises(BadPairing(((False, True), (2, 3))), share, A, ((False, True), (2, 3)))

    def test_wish_with_other_parts(self):
        always_zero = wish_of(2, ((((0,), (0,)), (1, 1)), (((0,), (1,)), (-1, 1)), (((0, 1), (0, 1)), (-1, 1))))
        for board in (A, M, MM, straight(2)):
            self.gives(True, is_nought_on, always_zero, board)
            self.gives((), worth_by_shares, always_zero, board)
