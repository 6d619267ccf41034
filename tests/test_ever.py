"""Never below zero [9.1], alike [9.2], and ever.py."""

import random

from tests import slow
from tests.anything import random_things, some_changed, undivided, undivided_masses
from tests.helpers import CompanyTest
from tests.samples import A, LONG_NUMBER, M, odd_things, random_board, random_wish, random_wishes
from twocompanies.boards import Board
from twocompanies.coordinates import coordinates, masses
from twocompanies.drawing import behind, straight
from twocompanies.errors import OtherSizes
from twocompanies.ever import (alike_holds, are_alike, first_below, first_parting, is_ever_at_least, is_never_below,
                               judge_alike, judge_never, least_below, never_holds)
from twocompanies.pairings import pairings
from twocompanies.plainform import plain_form, relations, wish_with
from twocompanies.products import products
from twocompanies.speech import spoken
from twocompanies.wishes import Wish, filled_worth, one_product, whole, wish_minus, wish_of, wish_plus, wish_times
from twocompanies.words import told_board, word_length

OPEN, NEST = pairings(2)
UP = spoken("size 2\nwish [ 0 | 0 ] - [ 0 | 1 ]")
DOWN = spoken("size 2\nwish [ 0 | 1 ] - [ 0 | 0 ]")


def sums_of_squares(size, many):
    """Wishes with coordinates at random, a few of them below zero, some of them zero."""
    found = []
    for seed in range(many):
        source = random.Random(seed)
        least = source.choice([0, -1, -1])
        found.append(wish_with(size, tuple((source.randint(least, 3), source.randint(1, 4)) for _ in pairings(size))))
    return found


WISHES = random_wishes(5, 7, 60) + sums_of_squares(3, 20) + sums_of_squares(4, 12) + [Wish(6, ()), whole(6), random_wish(5, 6, 9)]


class Never(CompanyTest):
    def test_examples(self):
        self.gives(("never", ((NEST, (1, 1)),)), judge_never, UP)
        self.gives(("below", straight(2)), judge_never, DOWN)
        self.gives((0, 1), filled_worth, one_product(2, (0,), (1,)), straight(2))

    def test_is_never_below(self):
        for wish in WISHES:
            wanted = slow.coordinates(wish)
            self.gives(min(wanted) >= 0, is_never_below, wish)
            first = next((pairing for pairing, own in zip(pairings(wish.size), wanted) if own < 0), None)
            self.gives(first, first_below, wish)
        for size in range(1, 7):
            self.gives(True, is_never_below, Wish(size, ()))
            self.gives(True, is_never_below, whole(size))
            self.gives(False, is_never_below, wish_times((-1, 5), whole(size)))
            self.gives(pairings(size)[-1], first_below, wish_times((-1, 5), whole(size)))

    def test_least_below(self):
        """The fewest pieces, and of these the first pairing."""
        for wish in WISHES:
            below = [pairing for pairing, own in zip(pairings(wish.size), slow.coordinates(wish)) if own < 0]
            board = least_below(wish)
            if not below:
                self.assertIsNone(board)
                continue
            best = min((word_length(pairing), pairing) for pairing in below)
            self.gives(told_board(best[1]), least_below, wish)
            self.assertLess(slow.worth(wish, board), 0)
        # All but the straight pairing are below zero; of those with one meeting the first one is taken.
        wish = wish_with(4, tuple((0, 1) if pairing == pairings(4)[-1] else (-1, 1) for pairing in pairings(4)))
        self.gives(Board(4, (("meet", 0),)), least_below, wish)
        two = [pairing for pairing in pairings(4) if word_length(pairing) == 1]
        self.assertEqual(len(two), 3)
        for pairing in two:
            wish = wish_with(4, tuple((-1, 1) if own == pairing or word_length(own) > 1 else (1, 1) for own in pairings(4)))
            self.gives(told_board(pairing), least_below, wish)
        self.gives(straight(3), least_below, wish_times((-1, 1), whole(3)))

    def test_judge_never(self):
        for wish in WISHES:
            paper = judge_never(wish)
            if min(slow.coordinates(wish)) >= 0:
                self.gives(("never", masses(wish)), judge_never, wish)
            else:
                self.gives(("below", least_below(wish)), judge_never, wish)
            self.gives(True, never_holds, wish, paper)
            self.assertTrue(slow.right_never(wish, paper))

    def test_any_board_below(self):
        """Not only told boards, and with weights of any kind."""
        boards = [random_board(seed, 3, 5) for seed in range(60)]
        found = 0
        for seed in range(12):
            wish = random_wish(seed, 3, 4)
            for board in boards:
                right = slow.worth(wish, board) < 0
                found += right
                self.gives(right, never_holds, wish, ("below", board))
        self.assertGreater(found, 100)
        self.gives(True, never_holds, DOWN, ("below", behind(straight(2), Board(2, (("pass", 0, (LONG_NUMBER, 3)),)))))
        for board in [M, Board(2, (("pass", 0, (0, 1)),)), Board(2, (("pass", 0, "a"),)), straight(3), straight(1), straight(9), "board 2", None]:
            self.gives(False, never_holds, DOWN, ("below", board))
        for size in range(3, 7):
            minus = wish_times((-1, 1), whole(size))
            self.gives(True, never_holds, minus, ("below", straight(size)))
            self.gives(True, never_holds, minus, ("below", Board(size, (("down", 0, (5, 2)), ("pass", 1, (1, 9))))))
            self.gives(False, never_holds, minus, ("below", straight(size + 1)))
            self.gives(False, never_holds, whole(size), ("below", straight(size)))

    def test_masses_with_divisors(self):
        for wish in WISHES:
            own = undivided_masses(masses(wish))
            self.gives(is_never_below(wish), never_holds, wish, ("never", own))
            self.gives(False, never_holds, wish, ("never", own + ((OPEN, (1, 1)),)))
            self.gives(False, never_holds, wish, ("never", own + ((pairings(wish.size)[-1], (1, 1)),)) if own else ("never", None))
            self.gives(False, never_holds, wish, ("never", list(own)))
            self.gives(False, never_holds, wish, ["never", own])
            if len(own) > 1:
                self.gives(False, never_holds, wish, ("never", own[::-1]))
        zero = ((OPEN, (0, 1)), (NEST, (1, 1)))
        self.gives(False, never_holds, UP, ("never", zero))
        self.gives(True, never_holds, UP, ("never", ((NEST, (7, 7)),)))
        self.gives(False, never_holds, UP, ("never", ((NEST, (True, 1)),)))
        self.gives(False, never_holds, UP, ("never", ((NEST, (-1, -1)),)))
        self.gives(False, never_holds, UP, ("never", ()))
        self.gives(True, never_holds, Wish(2, ()), ("never", ()))
        self.gives(False, never_holds, Wish(2, ()), ("never", ((NEST, (0, 1)),)))
        self.gives(False, never_holds, DOWN, ("never", masses(DOWN)))

    def test_changed_papers(self):
        for seed, wish in enumerate(WISHES[:50:2] + [UP, DOWN]):
            for thing in some_changed(judge_never(wish), seed, 80):
                self.gives(slow.right_never(wish, thing), never_holds, wish, thing)

    def test_any_values(self):
        for thing in odd_things() + random_things(1, 300):
            self.gives(slow.right_never(UP, thing), never_holds, UP, thing)
            self.gives(slow.right_never(DOWN, ("below", thing)), never_holds, DOWN, ("below", thing))
            self.gives(False, never_holds, UP, ("never", thing))
            self.gives(False, never_holds, UP, (thing, masses(UP)))

    def test_never_on_random_boards(self):
        for seed in range(80):
            wish = random_wish(seed, 1 + seed % 4, 4)
            for number in range(5):
                if is_never_below(wish):
                    self.assertGreaterEqual(filled_worth(wish, random_board(1000 * seed + number, wish.size, 7))[0], 0)

    def test_by_name(self):
        self.assertTrue(is_never_below(wish=UP))
        self.assertIsNone(first_below(wish=UP))
        self.assertIsNone(least_below(wish=UP))
        self.assertTrue(never_holds(thing=judge_never(wish=UP), wish=UP))
        self.assertTrue(are_alike(other=UP, one=UP))
        self.assertIsNone(first_parting(other=UP, one=UP))
        self.assertTrue(alike_holds(thing=judge_alike(other=UP, one=UP), other=UP, one=UP))
        self.assertTrue(is_ever_at_least(other=DOWN, one=UP))


class Alike(CompanyTest):
    def pairs(self):
        found = [(one, other) for one in WISHES[::3] for other in WISHES[::7] if one.size == other.size]
        found += [(wish, plain_form(wish)) for wish in WISHES[::2]]
        found += [(wish, wish_plus(wish, relations(wish.size)[-1])) for wish in WISHES[::4] if 1 < wish.size < 5]
        return found

    def test_are_alike(self):
        alike = 0
        for one, other in self.pairs():
            wanted = slow.coordinates(one) == slow.coordinates(other)
            alike += wanted
            self.gives(wanted, are_alike, one, other)
            self.gives(wanted, are_alike, other, one)
            different = [pairing for pairing, a, b in zip(pairings(one.size), slow.coordinates(one), slow.coordinates(other)) if a != b]
            board = told_board(different[0]) if different else None
            self.gives(board, first_parting, one, other)
            paper = ("alike", masses(one)) if wanted else ("parted", board)
            self.gives(paper, judge_alike, one, other)
            self.gives(True, alike_holds, one, other, paper)
            self.assertTrue(slow.right_alike(one, other, paper))
        self.assertGreater(alike, 40)

    def test_identities(self):
        three = spoken("size 2\nwish [ 0 | 0 ] - [ 0 | 1 ] - [ 0 1 | 0 1 ]")
        self.gives(True, are_alike, three, Wish(2, ()))
        self.gives(("alike", ()), judge_alike, Wish(2, ()), three)
        self.gives(("parted", straight(2)), judge_alike, UP, DOWN)
        self.gives(("parted", M), judge_alike, UP, one_product(2, (0,), (0,)))
        self.gives(("parted", straight(2)), judge_alike, UP, Wish(2, ()))

    def test_papers_of_alike(self):
        for wish in WISHES[::3]:
            other = plain_form(wish)
            self.gives(True, alike_holds, wish, other, ("alike", undivided_masses(masses(wish))))
            self.gives(False, alike_holds, wish, other, ("alike", list(masses(wish))))
            self.gives(False, alike_holds, wish, other, ("parted", straight(wish.size)))
            if masses(wish):
                self.gives(False, alike_holds, wish, other, ("alike", ()))
                self.gives(False, alike_holds, wish, Wish(wish.size, ()), ("alike", masses(wish)))
                self.gives(False, alike_holds, Wish(wish.size, ()), wish, ("alike", masses(wish)))

    def test_any_board_parts(self):
        boards = [random_board(seed, 3, 5) for seed in range(40)]
        for seed in range(10):
            one, other = random_wish(seed, 3, 3), random_wish(seed + 1, 3, 3)
            for board in boards:
                self.gives(slow.worth(one, board) != slow.worth(other, board), alike_holds, one, other, ("parted", board))
        for board in [straight(1), straight(3), Board(2, (("down", 0, "a"),)), A, None, "board 2", (M,)]:
            self.gives(False, alike_holds, UP, DOWN, ("parted", board))
        self.gives(True, alike_holds, UP, DOWN, ("parted", straight(2)))

    def test_changed_papers(self):
        for seed, (one, other) in enumerate(self.pairs()[::5]):
            for thing in some_changed(judge_alike(one, other), seed, 40):
                self.gives(slow.right_alike(one, other, thing), alike_holds, one, other, thing)

    def test_any_values(self):
        for thing in odd_things() + random_things(2, 200):
            self.gives(slow.right_alike(UP, UP, thing), alike_holds, UP, UP, thing)
            self.gives(slow.right_alike(UP, DOWN, ("parted", thing)), alike_holds, UP, DOWN, ("parted", thing))
            self.gives(False, alike_holds, UP, UP, ("alike", thing))

    def test_other_sizes(self):
        for one, other in [(whole(2), whole(3)), (whole(6), Wish(1, ())), (Wish(4, ()), Wish(5, ()))]:
            for call in (are_alike, first_parting, judge_alike, is_ever_at_least):
                self.raises(OtherSizes(), call, one, other)
                self.raises(OtherSizes(), call, other, one)
            for thing in odd_things() + [("alike", ()), ("parted", straight(2)), ("parted", straight(3)), ("never", ())]:
                self.raises(OtherSizes(), alike_holds, one, other, thing)

    def test_is_ever_at_least(self):
        for one, other in self.pairs():
            wanted = all(a >= b for a, b in zip(slow.coordinates(one), slow.coordinates(other)))
            self.gives(wanted, is_ever_at_least, one, other)
            self.gives(True, is_ever_at_least, one, one)
        self.gives(True, is_ever_at_least, one_product(2, (0,), (0,)), one_product(2, (0,), (1,)))
        self.gives(False, is_ever_at_least, one_product(2, (0,), (1,)), one_product(2, (0,), (0,)))

    def test_great_wishes(self):
        """120 parts of size 6."""
        source = random.Random(6)
        one = wish_of(6, tuple((own, (source.randint(1, 999999), source.randint(1, 999999))) for own in source.sample(products(6), 120)))
        self.gives(True, is_never_below, one)
        self.gives(True, never_holds, one, ("never", undivided_masses(masses(one))))
        other = wish_minus(one, wish_times((1, 3), whole(6)))
        self.gives(("parted", told_board(pairings(6)[-1])), judge_alike, one, other)
        self.gives(True, alike_holds, one, other, judge_alike(one, other))
        self.gives(coordinates(one), coordinates, plain_form(one))
        self.gives(("alike", masses(one)), judge_alike, plain_form(one), one)

    def test_numbers_count_as_equal(self):
        wish = wish_with(2, ((2, 4), (9, 3)))
        for by in (1, 2, 30):
            paper = ("never", ((OPEN, undivided((1, 2), by)), (NEST, undivided((3, 1), by))))
            self.gives(True, never_holds, wish, paper)
            self.gives(True, alike_holds, wish, wish, ("alike", paper[1]))
