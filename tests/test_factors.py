"""Factors [9.3], and factors.py."""

import random
from fractions import Fraction

from tests import slow
from tests.anything import random_things, some_changed, undivided
from tests.helpers import CompanyTest
from tests.samples import A, M, odd_things, random_board, random_wish
from twocompanies.boards import Board
from twocompanies.drawing import straight
from twocompanies.errors import OtherSizes
from twocompanies.factors import factors_holds, greatest_factor, is_factor, judge_factors, least_factor
from twocompanies.pairings import pairings
from twocompanies.plainform import wish_with
from twocompanies.speech import spoken
from twocompanies.wishes import Wish, one_product, whole, wish_minus, wish_plus, wish_times
from twocompanies.words import told_board

OPEN, NEST = pairings(2)
P = one_product(2, (0,), (0,))
Q = one_product(2, (0,), (1,))


def with_coordinates(*numbers):
    """The wish of size 2 with these integers as coordinates."""
    return wish_with(2, tuple((number, 1) for number in numbers))


def random_pairs(many=90):
    """Pairs of wishes with coordinates of all signs."""
    found = []
    for seed in range(many):
        source = random.Random(seed)
        size = source.choice([1, 2, 2, 3, 3, 4])
        least = source.choice([0, -1, -3])
        one = wish_with(size, tuple((source.randint(least - 1, 5), source.randint(1, 3)) for _ in pairings(size)))
        other = wish_with(size, tuple((source.randint(least, 3), source.randint(1, 3)) for _ in pairings(size)))
        if source.random() < 0.4:
            one = wish_plus(one, wish_times((source.randint(-4, 4), 1), other))
        found.append((one, other))
    for seed in range(30):
        found.append((random_wish(seed, 1 + seed % 4, 5), random_wish(seed + 500, 1 + seed % 4, 3)))
    return found


KINDS = {
    "both ends": (with_coordinates(2, 3), with_coordinates(1, -1), ("stretch", (-3, 1), (2, 1))),
    "one number": (with_coordinates(2, -2), with_coordinates(1, -1), ("stretch", (2, 1), (2, 1))),
    "greatest": (with_coordinates(2, 3), with_coordinates(3, 0), ("stretch", None, (2, 3))),
    "least": (with_coordinates(-1, 0), with_coordinates(-2, 0), ("stretch", (1, 2), None)),
    "all numbers": (with_coordinates(2, 0), with_coordinates(0, 0), ("stretch", None, None)),
    "by one board": (with_coordinates(5, -1), with_coordinates(2, 0), ("none", (straight(2),))),
    "by two boards": (with_coordinates(1, -4), with_coordinates(1, -2), ("none", (M, straight(2)))),
    "by two boards, the other way round": (with_coordinates(-4, 1), with_coordinates(-2, 1), ("none", (straight(2), M))),
    "of nothing": (with_coordinates(0, 0), with_coordinates(0, 0), ("stretch", None, None)),
}


class Factors(CompanyTest):
    def test_examples(self):
        self.gives(("stretch", None, (1, 1)), judge_factors, P, Q)
        self.gives(("stretch", None, (0, 1)), judge_factors, Q, P)
        minus = spoken("size 2\nwish [ 0 | 1 ] - [ 0 1 | 0 1 ]")
        self.gives(("none", (straight(2),)), judge_factors, minus, Q)

    def test_kinds(self):
        for one, other, paper in KINDS.values():
            self.gives(paper, judge_factors, one, other)
            self.gives(True, factors_holds, one, other, paper)
            self.gives(paper[1] if paper[0] == "stretch" else None, least_factor, one, other)
            self.gives(paper[2] if paper[0] == "stretch" else None, greatest_factor, one, other)

    def test_random_pairs(self):
        kinds = {}
        for one, other in random_pairs():
            wanted = slow.stretch(one, other)
            paper = judge_factors(one, other)
            kinds[paper[0]] = kinds.get(paper[0], 0) + 1
            self.assertEqual(paper[0], "none" if wanted is None else "stretch")
            self.assertTrue(slow.right_factors(one, other, paper))
            self.gives(True, factors_holds, one, other, paper)
            self.gives(paper, judge_factors, one, other)
            low, high = wanted if wanted is not None else (None, None)
            self.gives(None if low is None else slow.pair_of(low), least_factor, one, other)
            self.gives(None if high is None else slow.pair_of(high), greatest_factor, one, other)
        self.assertGreater(min(kinds["none"], kinds["stretch"]), 20)

    def test_is_factor(self):
        for one, other in random_pairs()[::2]:
            wanted = slow.stretch(one, other)
            numbers = {Fraction(top, bottom) for top in (-7, -1, 0, 1, 2, 5) for bottom in (1, 3)}
            if wanted is not None:
                for bound in wanted:
                    if bound is not None:
                        numbers |= {bound, bound + Fraction(1, 999), bound - Fraction(1, 999)}
            for number in numbers:
                right = wanted is not None and (wanted[0] is None or wanted[0] <= number) and (wanted[1] is None or number <= wanted[1])
                self.gives(right, is_factor, one, other, slow.pair_of(number))
                self.gives(right, is_factor, one, other, undivided(slow.pair_of(number), 5))

    def test_stretch_with_divisors(self):
        one, other, paper = KINDS["both ends"]
        self.gives(True, factors_holds, one, other, ("stretch", (-6, 2), (10, 5)))
        for thing in [("stretch", (2, 1), (-3, 1)), ("stretch", None, (2, 1)), ("stretch", (-3, 1), None), ("stretch", None, None),
                      ("stretch", (-3, 1), (2, 1), None), ("stretch", (-3, 1)), ["stretch", (-3, 1), (2, 1)], ("stretch", [-3, 1], (2, 1)),
                      ("stretch", (-2, 1), (2, 1)), ("stretch", (-3, 1), (1, 1)), ("stretch", (-3, True), (2, 1)), ("stretch", -3, 2)]:
            self.gives(False, factors_holds, one, other, thing)
        for one, other in random_pairs()[::3]:
            paper = judge_factors(one, other)
            if paper[0] == "stretch":
                self.gives(True, factors_holds, one, other, ("stretch", undivided(paper[1]), undivided(paper[2], 4)))
        self.gives(True, factors_holds, Q, P, ("stretch", None, (0, 8)))
        one, other, _ = KINDS["by two boards"]
        self.gives(False, factors_holds, one, other, ("stretch", (2, 1), (1, 1)))
        self.gives(False, factors_holds, one, other, ("stretch", None, None))

    def test_other_boards_show_it_too(self):
        double = Board(2, (("meet", 0), ("pass", 1, (2, 1))))
        for kind in ("by one board", "by two boards", "by two boards, the other way round"):
            one, other, _ = KINDS[kind]
            boards = [M, straight(2), double, A, Board(2, (("pass", 0, (0, 1)),)), straight(3), Board(2, (("pass", 0, (5, 3)),))]
            boards += [random_board(seed, 2, 3) for seed in range(6)]
            tuples = [()] + [(board,) for board in boards] + [(first, second) for first in boards for second in boards]
            tuples += [(board, boards[0], boards[1]) for board in boards]
            found = 0
            for some in tuples:
                right = slow.right_factors(one, other, ("none", some))
                found += right
                self.gives(right, factors_holds, one, other, ("none", some))
                self.gives(False, factors_holds, one, other, ("none", list(some)))
            self.assertGreater(found, 1)

    def test_changed_papers(self):
        pairs = random_pairs()[::6] + [own[:2] for own in KINDS.values()]
        for seed, (one, other) in enumerate(pairs):
            for thing in some_changed(judge_factors(one, other), seed, 60):
                self.gives(slow.right_factors(one, other, thing), factors_holds, one, other, thing)

    def test_any_values(self):
        for thing in odd_things() + random_things(3, 200):
            for one, other in ((P, Q), KINDS["by two boards"][:2]):
                for own in (thing, ("none", thing), ("none", (thing,)), ("none", (M, thing)), ("stretch", thing, (1, 1)), ("stretch", None, thing)):
                    self.gives(slow.right_factors(one, other, own), factors_holds, one, other, own)

    def test_other_sizes(self):
        for one, other in [(whole(2), whole(3)), (Wish(6, ()), Wish(1, ())), (P, Wish(3, ()))]:
            for call in (judge_factors, least_factor, greatest_factor):
                self.raises(OtherSizes(), call, one, other)
                self.raises(OtherSizes(), call, other, one)
            for thing in odd_things() + [("stretch", None, None), ("none", (straight(2),))]:
                self.raises(OtherSizes(), factors_holds, one, other, thing)
            self.raises(OtherSizes(), is_factor, one, other, (1, 1))

    def test_size_six(self):
        one, other = random_wish(1, 6, 60), random_wish(2, 6, 40)
        for pair in [(one, other), (wish_plus(whole(6), one_product(6, (0,), (0,))), one_product(6, (0,), (0,))), (one, wish_minus(one, one))]:
            paper = judge_factors(*pair)
            self.assertTrue(slow.right_factors(*pair, paper))
            self.gives(True, factors_holds, *pair, paper)

    def test_first_boards(self):
        """Any boards are right; these are told boards."""
        one, other, _ = KINDS["by one board"]
        self.assertEqual(judge_factors(one, other)[1], (told_board(NEST),))
        self.gives(True, factors_holds, one, other, ("none", (straight(2),)))
        self.gives(False, factors_holds, one, other, ("none", (M,)))

    def test_by_name(self):
        self.assertTrue(factors_holds(thing=judge_factors(other=Q, one=P), other=Q, one=P))
        self.assertTrue(is_factor(number=(1, 1), other=Q, one=P))
        self.assertIsNone(least_factor(other=Q, one=P))
        self.assertEqual(greatest_factor(other=Q, one=P), (1, 1))
