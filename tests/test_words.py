"""Words [5.1], plain words [5.2], told boards [5.3], and words.py."""

import itertools
import random

from tests.helpers import CompanyTest
from tests.samples import LONG_NUMBER, A, odd_things
from tests.test_pairings import BAD, SEVEN, slow_joined
from twocompanies.boards import Board
from twocompanies.errors import BadPairing, BadSize, BadWord, TooMany
from twocompanies.pairings import is_pairing, pairing_text, pairings, rim_of_column, rim_of_row, straight_pairing
from twocompanies.sums import number_sum
from twocompanies.tables import table_of
from twocompanies.words import (board_of_word, first_word, is_plain, is_word, pairing_made, plain_words, told_board,
                                told_boards, word_length)

TAKE_WORDS = (pairing_made, is_plain, board_of_word)
TAKE_PAIRINGS = (first_word, plain_words, word_length, told_board)
BAD_SIZES = odd_things() + [0, 7, 9, "2", (2,), [2]]


def slow_meeting(size, k):
    """The pairing of a meeting, place by place."""
    pairs = [(rim_of_row(size, k), rim_of_row(size, k + 1)), (rim_of_column(size, k + 1), rim_of_column(size, k))]
    pairs += [(rim_of_row(size, i), rim_of_column(size, i)) for i in range(size) if i not in (k, k + 1)]
    return tuple(sorted(pairs))


def slow_made(size, word):
    """The pairing that a word makes and the rings, by joining the pairings of its meetings."""
    pairing, rings = straight_pairing(size), 0
    for k in word:
        pairing, more = slow_joined(pairing, slow_meeting(size, k))
        rings += more
    return pairing, rings


def slow_plain(word):
    """Whether a word is plain, by looking at all pairs of equal meetings."""
    for i, j in itertools.combinations(range(len(word)), 2):
        between = word[i + 1:j]
        if word[i] == word[j] and word[i] not in between:
            if not {word[i] - 1, word[i] + 1} <= set(between):
                return False
    return True


def all_plain_words(size):
    """A dict from each pairing to the sorted list of the plain words that make it, by trying words meeting by meeting."""
    found, layer = {}, [()]
    while layer:
        for word in layer:
            found.setdefault(slow_made(size, word), []).append(word)
        layer = [word + (k,) for word in layer for k in range(size - 1) if slow_plain(word + (k,))]
    return found


def bad_words(size):
    """Items that are no meetings of this size."""
    return odd_things() + [-1, size - 1, size, LONG_NUMBER, True, False, "0", (0,), [0], None, "", A, (), {0: 0}]


class Words(CompanyTest):
    def test_examples(self):
        self.gives((((0, 1), (2, 5), (3, 4)), 0), pairing_made, 3, (0, 1))
        self.gives((((0, 1), (2, 3), (4, 5)), 0), pairing_made, 3, (0, 1, 0))
        self.gives(False, is_plain, 3, (0, 1, 0))
        self.gives((1,), first_word, ((0, 5), (1, 2), (3, 4)))
        self.gives((((0, 1), (2, 3)), 0), pairing_made, 2, (0,))
        self.gives((((0, 1), (2, 3)), 1), pairing_made, 2, (0, 0))
        self.gives("()()()", lambda: pairing_text(pairing_made(3, (0,))[0]))
        self.gives("(()())", lambda: pairing_text(pairing_made(3, (1,))[0]))
        two = number_sum((2, 1))
        self.gives(((two, two), (two, two)), table_of, board_of_word(2, (0, 0)))

    def test_is_word(self):
        for size in range(1, 7):
            self.gives(True, is_word, size, ())
            self.gives(size > 1, is_word, size, (0, 0))
            for k in range(-2, size + 2):
                self.gives(0 <= k < size - 1, is_word, size, (k,))
            self.gives(True, is_word, size, tuple(range(size - 1)) * 6)
            for thing in bad_words(size):
                self.gives(False, is_word, size, (thing,))
                self.gives(False, is_word, size, tuple(range(size - 1)) + (thing,))
                if thing not in ((0, 0), (1, 0), (), (1, 2, 3), (0,)):
                    self.gives(False, is_word, size, thing)
        for thing in ([], [0], "", "0", 0, None, True, {}, {0: 0}, A, (True,), (False,), (0, True), ((0,),), ("0",)):
            self.gives(False, is_word, 4, thing)

    def test_pairings_made(self):
        for size in range(1, 5):
            self.gives((straight_pairing(size), 0), pairing_made, size, ())
            for many in range(1, 6 if size < 4 else 5):
                for word in itertools.product(range(size - 1), repeat=many):
                    self.gives(slow_made(size, word), pairing_made, size, word)
        source = random.Random(1)
        for size in (4, 5, 6):
            for _ in range(40):
                word = tuple(source.randrange(size - 1) for _ in range(source.randint(0, 30)))
                self.gives(slow_made(size, word), pairing_made, size, word)
        self.gives((((0, 1), (2, 3)), 29), pairing_made, 2, (0,) * 30)

    def test_is_plain(self):
        for size in range(1, 5):
            for many in range(0, 7):
                for word in itertools.product(range(size - 1), repeat=many):
                    self.gives(slow_plain(word), is_plain, size, word)
        source = random.Random(2)
        for size in (5, 6):
            for _ in range(400):
                word = tuple(source.randrange(size - 1) for _ in range(source.randint(2, 9)))
                self.gives(slow_plain(word), is_plain, size, word)
        self.gives(True, is_plain, 4, (1, 0, 2, 1))
        self.gives(False, is_plain, 4, (1, 0, 1))
        self.gives(False, is_plain, 4, (1, 2, 1))
        self.gives(False, is_plain, 2, (0, 0))
        self.gives(False, is_plain, 4, (2, 1, 0, 2))

    def test_boards_of_words(self):
        for word in [(), (0,), (2, 1, 0, 0), (1,) * 30]:
            self.gives(Board(4, tuple(("meet", k) for k in word)), board_of_word, 4, word)
        self.gives(Board(1, ()), board_of_word, 1, ())

    def test_errors_of_words(self):
        for call in TAKE_WORDS:
            for size in BAD_SIZES:
                self.raises(BadSize(size), call, size, ())
                self.raises(BadSize(size), call, size, None)
            for thing in [None, 0, True, "0", "", [], [0], {}, {0: 0}, A, -1]:
                self.raises(BadWord(-1), call, 3, thing)
                self.raises(BadWord(-1), call, 1, thing)
            for size in range(1, 7):
                good = tuple(range(size - 1))
                for thing in bad_words(size):
                    self.raises(BadWord(0), call, size, (thing,))
                    self.raises(BadWord(size - 1), call, size, good + (thing, 0, thing))
            self.raises(BadWord(0), call, 1, (0,))
            self.raises(BadWord(2), call, 2, (0, 0, 1))


class Plain(CompanyTest):
    def test_all_plain_words(self):
        for size in range(1, 7):
            slow = all_plain_words(size)
            self.assertEqual(sorted(slow), [(pairing, 0) for pairing in pairings(size)])
            for (pairing, _), words in slow.items():
                self.gives(tuple(words), plain_words, pairing)
                self.assertEqual(words, sorted(words))
                self.gives(words[0], first_word, pairing)
                self.assertEqual({len(word) for word in words}, {word_length(pairing)})
                self.assertTrue(all(is_plain(size, word) and is_word(size, word) for word in words))
                self.assertEqual(len({tuple(sorted(word)) for word in words}), 1)
                self.gives(Board(size, tuple(("meet", k) for k in words[0])), told_board, pairing)

    def test_most(self):
        for size in range(1, 7):
            for pairing in pairings(size)[::7]:
                found = plain_words(pairing)
                self.gives(found, plain_words, pairing, most=len(found))
                self.gives(found, plain_words, pairing, most=10 ** 30)
                for most in range(len(found)):
                    self.raises(TooMany(most), plain_words, pairing, most=most)
        self.gives(42, lambda: max(len(plain_words(pairing)) for pairing in pairings(6)))
        self.raises(BadPairing(SEVEN), plain_words, SEVEN, most=0)
        with self.assertRaises(TypeError):
            plain_words(straight_pairing(2), 1000)

    def test_straight_pairings(self):
        for size in range(1, 7):
            self.gives(((),), plain_words, straight_pairing(size))
            self.gives((), first_word, straight_pairing(size))
            self.gives(0, word_length, straight_pairing(size))
            self.gives(Board(size, ()), told_board, straight_pairing(size))

    def test_told_boards(self):
        for size, many in zip(range(1, 7), (1, 2, 5, 14, 42, 132)):
            boards = told_boards(size)
            self.assertEqual((type(boards), len(boards)), (tuple, many))
            for pairing, board in zip(pairings(size), boards):
                self.gives(board, told_board, pairing)
                word = tuple(piece[1] for piece in board.pieces)
                self.assertEqual([piece[0] for piece in board.pieces], ["meet"] * len(word))
                self.assertEqual(board.size, size)
                self.gives((pairing, 0), pairing_made, size, word)
                self.gives(word, first_word, pairing)
        self.gives((Board(2, (("meet", 0),)), Board(2, ())), told_boards, 2)
        for size in BAD_SIZES:
            self.raises(BadSize(size), told_boards, size)

    def test_bad_pairings(self):
        for thing in BAD + odd_things() + [(), SEVEN, 2, 0]:
            if not (isinstance(thing, tuple) and 1 <= len(thing) <= 6 and is_pairing(len(thing), thing)):
                for call in TAKE_PAIRINGS:
                    self.raises(BadPairing(thing), call, thing)

    def test_by_name(self):
        self.assertEqual(pairing_made(word=(0,), size=2), (((0, 1), (2, 3)), 0))
        self.assertTrue(is_plain(word=(0,), size=2) and is_word(thing=(0,), size=2))
        self.assertEqual(board_of_word(word=(0,), size=2), told_boards(size=2)[0])
        pairing = pairings(2)[0]
        self.assertEqual(plain_words(most=1, pairing=pairing), (first_word(pairing=pairing),))
        self.assertEqual(len(told_board(pairing=pairing)), word_length(pairing=pairing))
