"""Companies and tangles [2.3], tails [2.4], and companies.py."""

import itertools

from tests.helpers import CompanyTest
from tests.samples import A, M, odd_things, random_board
from twocompanies.boards import Board
from twocompanies.companies import (companies, exchanged, first_touch, is_company, judge_tangle, sign_of, tangle_holds,
                                    tangles)
from twocompanies.drawing import straight
from twocompanies.errors import BadSets, BadTangle, TooMany
from twocompanies.sums import number_sum, times
from twocompanies.ways import touches, way_weight, ways

BOTH = (0, 1)
FIRST = ((0, 0), (1, 1))
SECOND = ((0, 1), (1, 0))
MEETS = Board(3, (("meet", 0), ("meet", 1), ("down", 0, "a"), ("meet", 0)))
SAMPLES = [A, M, MEETS, straight(3)] + [random_board(seed, 2 + seed % 3, 4, ("a",)) for seed in range(12)]


def sets(size):
    """All pairs of sets with equally many places."""
    for many in range(size + 1):
        for rows in itertools.combinations(range(size), many):
            for columns in itertools.combinations(range(size), many):
                yield rows, columns


def slow_tangles(board, rows, columns):
    """All tangles, in order, by trying all orders of the columns."""
    found = []
    for order in itertools.permutations(columns):
        found.extend(itertools.product(*[ways(board, row, column) for row, column in zip(rows, order)]))
    return tuple(sorted(found))


def weight_of(board, tangle):
    """The product of the weights of the ways of a tangle, a sum."""
    found = number_sum((1, 1))
    for way in tangle:
        weight = way_weight(board, way)
        found = times(found, () if weight is None else (weight,))
    return found


def bad_sets():
    """Pairs of values that are not two sets of size 2 with equally many places."""
    bad = [((0,), ()), ((0,), BOTH), ((0,), (2,)), ((-1,), (0,)), ((1, 0), BOTH), ((0, 0), BOTH), ((False,), (0,)),
           ((0,), (True,)), ([0], (0,)), ((0,), [0]), (0, 0), (None, None), ("0", "0"), ((0, 1, 2), (0, 1, 2)), (A, (0,)),
           ((), None), ({}, ()), ((), [])]
    return bad + [(thing, ()) for thing in odd_things() if thing != ()]


class Lists(CompanyTest):
    def test_examples(self):
        self.gives((), companies, M, BOTH, BOTH)
        self.gives((FIRST, SECOND), tangles, M, BOTH, BOTH)
        self.gives((((0, 0, 0), (1, 1, 1)),), companies, A, BOTH, BOTH)

    def test_no_rows(self):
        for board in SAMPLES:
            self.gives(((),), tangles, board, (), ())
            self.gives(((),), companies, board, (), ())
            self.raises(TooMany(0), tangles, board, (), (), most=0)
            self.raises(TooMany(0), companies, board, (), (), most=0)

    def test_all_in_order(self):
        for board in SAMPLES:
            for rows, columns in sets(board.size):
                wanted = slow_tangles(board, rows, columns)
                self.gives(wanted, tangles, board, rows, columns)
                apart = tuple(tangle for tangle in wanted if touches(board, tangle) == ())
                self.gives(apart, companies, board, rows, columns)

    def test_too_many(self):
        for board in SAMPLES[:6]:
            for rows, columns in sets(board.size):
                for call in (tangles, companies):
                    many = len(call(board, rows, columns))
                    self.assertEqual(len(call(board, rows, columns, most=many)), many)
                    if many > 0:
                        self.raises(TooMany(many - 1), call, board, rows, columns, most=many - 1)
        board = Board(2, (("meet", 0),) * 12)
        self.assertEqual(len(tangles(board, (0,), (1,), most=2048)), 2048)
        self.raises(TooMany(2000), tangles, board, (0,), (1,))
        self.raises(TooMany(2000), companies, board, (0,), (1,))
        self.raises(TooMany(2), tangles, Board(4, (("meet", 1),) * 60), (0, 1, 2, 3), (0, 1, 2, 3), most=2)
        self.raises(TooMany(2), companies, Board(4, (("meet", 1),) * 60), (1, 3), (2, 3), most=2)
        for call in (tangles, companies):
            with self.assertRaises(TypeError):
                call(board, (), (), 5)
            self.assertEqual(call(most=1, columns=(), rows=(), board=A), ((),))

    def test_bad_sets_come_first(self):
        for rows, columns in bad_sets():
            wanted = BadSets((rows, columns))
            for call in (tangles, companies):
                self.raises(wanted, call, A, rows, columns)
                self.raises(wanted, call, A, rows, columns, most=0)
            for call in (sign_of, first_touch, exchanged, judge_tangle):
                self.raises(wanted, call, A, rows, columns, None)
                self.raises(wanted, call, A, rows, columns, ())
            self.raises(wanted, tangle_holds, A, rows, columns, None, ("company",))
            self.gives(False, is_company, A, rows, columns, ())

    def test_bad_tangles(self):
        bad = [(), ((0, 0),), (FIRST,), ((1, 1), (0, 0)), ((0, 0), (0, 1)), ((0, 0), (1, 0)), [(0, 0), (1, 1)],
               ([0, 0], [1, 1]), ((0, 0), (1, True)), ((False, 0), (1, 1)), ((0, 0), (1, 1), (1, 1)), ((0, 0, 0), (1, 1, 1)),
               ((0, 0), (2, 2)), ((0, 0), None), "ab", M]
        for thing in bad + odd_things():
            for call in (sign_of, first_touch, exchanged, judge_tangle):
                self.raises(BadTangle(thing), call, M, BOTH, BOTH, thing)
            self.raises(BadTangle(thing), tangle_holds, M, BOTH, BOTH, thing, ("company",))
            self.gives(False, is_company, M, BOTH, BOTH, thing)
        self.raises(BadTangle(((0, 1),)), sign_of, M, (0,), (0,), ((0, 1),))
        self.raises(BadTangle(FIRST), sign_of, M, (), (), FIRST)

    def test_is_company(self):
        for board in SAMPLES[:7]:
            for rows, columns in sets(board.size):
                right = companies(board, rows, columns)
                for tangle in tangles(board, rows, columns):
                    self.gives(tangle in right, is_company, board, rows, columns, tangle)
                    self.gives(False, is_company, board, rows, columns, list(tangle))
        self.gives(True, is_company, A, (), (), ())
        self.gives(False, is_company, A, (0,), (1,), ((0, 0, 0),))


class Tails(CompanyTest):
    def test_examples(self):
        tangle = ((0, 1, 0), (1, 1, 1))
        self.gives((1, 0, 1), first_touch, A, BOTH, BOTH, tangle)
        self.gives(((0, 1, 1), (1, 1, 0)), exchanged, A, BOTH, BOTH, tangle)
        self.gives(SECOND, exchanged, M, BOTH, BOTH, FIRST)
        self.gives(FIRST, exchanged, M, BOTH, BOTH, SECOND)
        self.gives((1, -1), lambda: (sign_of(M, BOTH, BOTH, FIRST), sign_of(M, BOTH, BOTH, SECOND)))

    def test_signs(self):
        board = Board(4, tuple(("meet", k) for k in (0, 1, 2, 0, 1, 0)))
        rows = (0, 1, 2, 3)
        chosen = {}
        for tangle in tangles(board, rows, rows, most=20000):
            chosen.setdefault(tuple(way[-1] for way in tangle), tangle)
        self.assertEqual(len(chosen), 24)
        for ends, tangle in chosen.items():
            crossed = sum(1 for one, other in itertools.combinations(ends, 2) if one > other)
            self.gives((-1) ** crossed, sign_of, board, rows, rows, tangle)
        self.gives(1, sign_of, board, (), (), ())

    def test_exchange_leads_back(self):
        for board in SAMPLES:
            for rows, columns in sets(board.size):
                for tangle in tangles(board, rows, columns):
                    self.check(board, rows, columns, tangle)

    def check(self, board, rows, columns, tangle):
        found = touches(board, tangle)
        first = found[0] if found else None
        other = exchanged(board, rows, columns, tangle)
        self.assertEqual(first_touch(board, rows, columns, tangle), first)
        if first is None:
            self.assertIsNone(other)
            self.assertEqual(judge_tangle(board, rows, columns, tangle), ("company",))
            return
        self.assertEqual(judge_tangle(board, rows, columns, tangle), ("cancels", other))
        self.assertEqual(exchanged(board, rows, columns, other), tangle)
        self.assertEqual(first_touch(board, rows, columns, other), first)
        self.assertEqual(sign_of(board, rows, columns, other), -sign_of(board, rows, columns, tangle))
        self.assertEqual(weight_of(board, other), weight_of(board, tangle))

    def test_two_ways_of_the_least_rows(self):
        board = Board(3, (("up", 1, (1, 1)), ("up", 0, (1, 1)), ("down", 0, (1, 1)), ("down", 1, (1, 1))))
        rows = (0, 1, 2)
        tangle = ((0, 0, 0, 0, 0), (1, 1, 0, 1, 1), (2, 1, 0, 1, 2))
        self.gives((1, 0, 1), first_touch, board, rows, rows, tangle)
        self.gives(((0, 0, 0, 0, 0), (1, 1, 0, 1, 2), (2, 1, 0, 1, 1)), exchanged, board, rows, rows, tangle)
        board = Board(3, (("down", 0, (1, 1)), ("up", 1, (1, 1)), ("meet", 0), ("meet", 1)))
        tangle = ((0, 1, 1, 0, 0), (1, 1, 1, 1, 2), (2, 2, 1, 1, 1))
        self.gives((1, 0, 1), first_touch, board, rows, rows, tangle)
        self.gives(((0, 1, 1, 1, 2), (1, 1, 1, 0, 0), (2, 2, 1, 1, 1)), exchanged, board, rows, rows, tangle)

    def test_three_at_a_touch(self):
        board = Board(3, (("up", 1, (1, 1)), ("meet", 0), ("down", 1, (1, 1))))
        rows = (0, 1, 2)
        tangle = ((0, 0, 0, 0), (1, 1, 1, 1), (2, 1, 1, 2))
        self.gives((1, 0, 1), first_touch, board, rows, rows, tangle)
        board = Board(2, (("meet", 0),))
        self.gives((0, 1, 0), first_touch, board, BOTH, BOTH, FIRST)


class Papers(CompanyTest):
    def test_just_the_paper(self):
        for board in SAMPLES[:7]:
            for rows, columns in sets(board.size):
                found = tangles(board, rows, columns)
                for tangle in found:
                    paper = judge_tangle(board, rows, columns, tangle)
                    self.gives(True, tangle_holds, board, rows, columns, tangle, paper)
                    for other in found[:8]:
                        right = paper == ("cancels", other)
                        self.gives(right, tangle_holds, board, rows, columns, tangle, ("cancels", other))
                    self.gives(paper == ("company",), tangle_holds, board, rows, columns, tangle, ("company",))

    def test_other_values(self):
        wrong = [("company",), ("cancels",), ("cancels", FIRST), ("Cancels", SECOND), ("company", SECOND), ["cancels", SECOND],
                 ("cancels", list(SECOND)), ("cancels", ([0, 1], [1, 0])), ("cancels", ((0, True), (1, 0))),
                 ("cancels", ((0, 1), (True, 0))), ("cancels", ((False, 1), (1, 0))), ("cancels", SECOND, ()),
                 ("cancels", SECOND + ((0, 0),)), ("cancels", SECOND[:1]), ("cancels", None), ("cancels", M), "cancels",
                 ("cancels", ((0, "1"), (1, 0))), SECOND, ("cancels", ((1, 0), (0, 1)))]
        for thing in wrong + odd_things():
            self.gives(False, tangle_holds, M, BOTH, BOTH, FIRST, thing)
        tangle = ((0, 0, 0), (1, 1, 1))
        self.gives(True, tangle_holds, A, BOTH, BOTH, tangle, ("company",))
        wrong = [("company", ()), ("company", None), ["company"], "company", ("cancels", None), ("cancels", tangle), ((),),
                 ("COMPANY",), (("company",),)]
        for thing in wrong + odd_things():
            self.gives(False, tangle_holds, A, BOTH, BOTH, tangle, thing)

    def test_by_name(self):
        more = {"tangle": FIRST, "columns": BOTH, "rows": BOTH, "board": M}
        self.assertEqual(sign_of(**more), 1)
        self.assertEqual(first_touch(**more), (0, 1, 0))
        self.assertEqual(exchanged(**more), SECOND)
        self.assertEqual(judge_tangle(**more), ("cancels", SECOND))
        self.assertTrue(tangle_holds(thing=("cancels", SECOND), **more))
        self.assertFalse(is_company(board=M, rows=BOTH, columns=BOTH, thing=FIRST))
