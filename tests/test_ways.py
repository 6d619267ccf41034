"""Ways [2.1], touches [2.2], and ways.py."""

import itertools

from tests.helpers import CompanyTest
from tests.samples import A, M, odd_things, random_board, random_boards
from twocompanies.boards import Board
from twocompanies.drawing import backwards, straight
from twocompanies.errors import BadPlace, BadTangle, TooMany
from twocompanies.ways import is_way, touches, way_weight, ways

ALL = Board(3, (("down", 0, "a"), ("up", 1, "b"), ("pass", 1, (2, 3)), ("meet", 0), ("down", 0, "a"), ("pass", 0, (0, 1))))


def leads(piece, height, after):
    """Whether a piece leads from a height to another one, straight from [1.1]."""
    if height == after:
        return True
    kind, k = piece[0], piece[1]
    if kind == "down":
        return (height, after) == (k, k + 1)
    if kind == "up":
        return (height, after) == (k + 1, k)
    return kind == "meet" and {height, after} == {k, k + 1}


def slow_ways(board):
    """All ways, in order, by trying all tuples of heights."""
    tuples = itertools.product(range(board.size), repeat=len(board) + 1)
    return [way for way in tuples if all(leads(p, way[c], way[c + 1]) for c, p in enumerate(board.pieces))]


class Ways(CompanyTest):
    def test_examples(self):
        self.gives(((0, 1),), ways, M, 0, 1)
        self.gives(((0, 0, 0), (0, 1, 0)), ways, A, 0, 0)
        self.gives(((("a", 1),), (1, 2)), way_weight, A, (0, 1, 0))

    def test_all_ways_in_order(self):
        for board in random_boards(("a",), 4, 5, 60) + [ALL]:
            found = slow_ways(board)
            for row in range(board.size):
                for column in range(board.size):
                    wanted = tuple(way for way in found if way[0] == row and way[-1] == column)
                    self.gives(wanted, ways, board, row, column)

    def test_ways_of_weight_zero_are_ways(self):
        self.gives(((0, 1),), ways, Board(2, (("down", 0, (0, 1)),)), 0, 1)
        self.gives((), ways, Board(2, (("up", 0, (1, 1)),)), 0, 1)

    def test_bad_places(self):
        for thing in odd_things() + [2, "0", (0,), [0]]:
            self.raises(BadPlace(thing), ways, A, thing, 0)
            self.raises(BadPlace(thing), ways, A, 1, thing)
            self.raises(BadPlace(thing), ways, A, thing, 7)
            self.raises(BadPlace(thing), ways, A, thing, thing, most=0)
        self.raises(BadPlace(2), ways, A, 2, 3)
        self.raises(BadPlace(-1), ways, A, 0, -1, most=0)

    def test_too_many(self):
        board = Board(2, (("meet", 0),) * 12)
        self.assertEqual(len(ways(board, 0, 1, most=2048)), 2048)
        self.raises(TooMany(2047), ways, board, 0, 1, most=2047)
        self.raises(TooMany(2000), ways, board, 0, 1)
        self.raises(TooMany(0), ways, straight(1), 0, 0, most=0)
        self.gives((), ways, straight(2), 0, 1, most=0)
        self.raises(TooMany(5), ways, Board(2, (("meet", 0),) * 60), 0, 1, most=5)
        with self.assertRaises(TypeError):
            ways(board, 0, 1, 5000)
        self.assertEqual(ways(row=0, column=1, board=M), ((0, 1),))

    def test_is_way(self):
        for board in [A, M, ALL, straight(1), random_board(5, 3, 4)]:
            right = slow_ways(board)
            for thing in itertools.product(range(-1, board.size + 1), repeat=len(board) + 1):
                self.gives(thing in right, is_way, board, thing)
        bad = [(0, 0), (0, 0, 0, 0), (), [0, 0, 0], (0, 0, False), (True, 1, 1), (0, 0, None), (0, 0, "0"), ((0, 0, 0),),
               (0, 0, (0,)), 0, "000", A]
        for thing in bad + odd_things():
            self.gives(False, is_way, A, thing)


class Weights(CompanyTest):
    def test_weights(self):
        self.gives(((("a", 2), ("b", 1)), (2, 3)), way_weight, Board(2, (
            ("down", 0, "a"), ("up", 0, "b"), ("down", 0, "a"), ("pass", 1, (4, 6)), ("meet", 0))), (0, 1, 0, 1, 1, 0))
        self.gives(((), (1, 1)), way_weight, A, (0, 0, 0))
        self.gives(((), (1, 2)), way_weight, A, (1, 1, 0))
        self.gives(((), (1, 1)), way_weight, straight(1), (0,))
        self.gives(((("a", 1),), (2, 3)), way_weight, ALL, (0, 1, 1, 1, 1, 1, 1))
        self.gives(((("b", 1),), (2, 3)), way_weight, ALL, (2, 2, 1, 1, 1, 1, 1))

    def test_straight_ways_beside_slanted_ones_weigh_one(self):
        self.gives(((), (1, 1)), way_weight, Board(3, (("down", 0, "a"), ("up", 1, "b"))), (1, 1, 1))

    def test_zero(self):
        self.gives(None, way_weight, ALL, (0, 0, 0, 0, 0, 0, 0))
        self.gives(None, way_weight, Board(2, (("down", 0, (0, 1)),)), (0, 1))
        self.gives(((), (1, 1)), way_weight, Board(2, (("down", 0, (0, 1)),)), (0, 0))

    def test_no_way(self):
        for thing in odd_things() + [(0, 0), (1, 1, 2), [0, 0, 0], (0, 0, False), ((0, 0, 0),)]:
            self.raises(BadTangle(thing), way_weight, A, thing)


class Touches(CompanyTest):
    def test_examples(self):
        self.gives(((0, 1, 0),), touches, M, ((0, 0), (1, 1)))
        self.gives(((0, 1, 0), (1, 0, 0)), touches, M, ((0, 0), (1, 0)))
        self.gives(((1, 0, 1),), touches, A, ((0, 1, 0), (1, 1, 1)))

    def test_few_ways_and_the_same_way_twice(self):
        self.gives((), touches, M, ())
        self.gives((), touches, M, ((0, 1),))
        self.gives(((0, 0, 0), (0, 1, 0), (1, 0, 1)), touches, M, ((0, 1), (0, 1)))
        self.gives(((0, 0, 2), (1, 0, 2)), touches, Board(3, (("meet", 0),)), ((2, 2), (2, 2), (1, 0), (2, 2)))

    def test_all_touches(self):
        for seed in range(25):
            board = random_board(seed, 2 + seed % 3, 3)
            found = slow_ways(board)
            for some in [tuple(found[at::step]) for at in range(3) for step in (3, 7, 11)]:
                wanted = set()
                for one, other in itertools.combinations(some, 2):
                    for c in range(len(board) + 1):
                        if one[c] == other[c]:
                            wanted.add((c, 0, one[c]))
                        if c < len(board) and board.pieces[c][0] == "meet":
                            k = board.pieces[c][1]
                            if one[c] in (k, k + 1) and other[c] in (k, k + 1):
                                wanted.add((c, 1, k))
                self.gives(tuple(sorted(wanted)), touches, board, some)

    def test_at_the_last_moment_and_without_pieces(self):
        self.gives(((0, 0, 0),), touches, straight(1), ((0,), (0,)))
        self.gives(((1, 0, 0),), touches, Board(2, (("up", 0, (0, 1)),)), ((0, 0), (1, 0)))

    def test_no_tuple_of_ways(self):
        bad = [(0, 1), [(0, 1)], ((0, 1), (0, 2)), ((0, 1), [0, 1]), ((0, 1), (0, True)), ((0, 1), None), ((0,),)]
        for thing in bad + [some for some in odd_things() if some != ()]:
            self.raises(BadTangle(thing), touches, M, thing)

    def test_backwards_ways_touch_likewise(self):
        turned = backwards(ALL)
        for one, other in itertools.combinations(slow_ways(ALL)[::5], 2):
            there = [c for c, kind, _ in touches(ALL, (one, other)) if kind == 0]
            back = [len(ALL) - c for c, kind, _ in touches(turned, (one[::-1], other[::-1])) if kind == 0]
            self.assertEqual(there, sorted(back))
