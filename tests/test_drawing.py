"""Boards put together and turned [1.2], plans [1.4], and drawing.py."""

import copy

from tests.helpers import CompanyTest
from tests.samples import A, M, odd_things, random_boards
from twocompanies.boards import Board
from twocompanies.drawing import backwards, behind, below, planned, straight, upside_down
from twocompanies.errors import BadSize, BadText, OtherSizes

MIXED = Board(4, (("down", 0, "a"), ("up", 2, (1, 2)), ("pass", 0, "b"), ("meet", 1), ("pass", 3, (0, 1))))


class Together(CompanyTest):
    def test_behind(self):
        self.gives(Board(2, A.pieces + M.pieces), behind, A, M)
        self.gives(Board(2, M.pieces + A.pieces), behind, M, A)
        self.assertEqual(behind(other=M, one=A).pieces[-1], ("meet", 0))
        self.raises(OtherSizes(), behind, A, MIXED)
        self.raises(OtherSizes(), behind, straight(3), A)

    def test_below(self):
        self.gives((("down", 1, "a"), ("up", 1, (1, 2))), lambda b, c: below(b, c).pieces, straight(1), A)
        self.gives(3, lambda b, c: below(b, c).size, straight(1), A)
        wanted = A.pieces + (("down", 2, "a"), ("up", 4, (1, 2)), ("pass", 2, "b"), ("meet", 3), ("pass", 5, (0, 1)))
        self.gives(Board(6, wanted), below, A, MIXED)
        self.gives(Board(9, ()), below, straight(4), straight(5))
        self.raises(BadSize(10), below, straight(4), straight(6))
        self.raises(BadSize(18), below, straight(9), straight(9))
        self.raises(BadSize(10), below, straight(9), straight(1))
        self.assertEqual(below(other=A, one=straight(1)).pieces[0], ("down", 1, "a"))

    def test_backwards(self):
        self.gives(Board(2, (("down", 0, (1, 2)), ("up", 0, "a"))), backwards, A)
        wanted = (("pass", 3, (0, 1)), ("meet", 1), ("pass", 0, "b"), ("down", 2, (1, 2)), ("up", 0, "a"))
        self.gives(Board(4, wanted), backwards, MIXED)

    def test_upside_down(self):
        self.gives(Board(2, (("up", 0, "a"), ("down", 0, (1, 2)))), upside_down, A)
        wanted = (("up", 2, "a"), ("down", 0, (1, 2)), ("pass", 3, "b"), ("meet", 1), ("pass", 0, (0, 1)))
        self.gives(Board(4, wanted), upside_down, MIXED)
        self.gives(Board(1, (("pass", 0, "a"),)), upside_down, Board(1, (("pass", 0, "a"),)))

    def test_turned_twice(self):
        for board in random_boards(("a", "b"), 9, 9, 80):
            kept = copy.deepcopy(board)
            self.gives(board, lambda some: backwards(backwards(some)), board)
            self.gives(board, lambda some: upside_down(upside_down(some)), board)
            self.gives(upside_down(backwards(board)), lambda some: backwards(upside_down(some)), board)
            behind(board, board)
            self.assertEqual(board, kept)

    def test_straight(self):
        for size in range(1, 10):
            self.gives(Board(size, ()), straight, size)
        for size in odd_things() + [0, 10]:
            self.raises(BadSize(size), straight, size)


class Plans(CompanyTest):
    def test_without_repeats_a_plan_is_a_text(self):
        for board in random_boards(("turn", "repeat", "end"), 9, 12, 60):
            self.gives(board, planned, str(board))
        self.assertEqual(planned(text="board 2"), straight(2))

    def test_turns(self):
        self.gives(Board(3, (("meet", 0), ("meet", 1), ("meet", 0))), planned, "board 3\nrepeat 3\nmeet turn\nend")
        pieces = tuple(("pass", (turn + 9) % 4, "turn") for turn in range(5))
        self.gives(Board(4, pieces), planned, "board 4\nrepeat 5\npass turn+9 turn\nend")
        pieces = tuple(("down", (turn + 1) % 3, (1, 2)) for turn in range(4))
        self.gives(Board(4, pieces), planned, "board 4\nrepeat 4\ndown turn+1 1/2\nend")
        pieces = tuple(("up", (turn + 8) % 8, "z") for turn in range(60))
        self.gives(Board(9, pieces), planned, "board 9\nrepeat 60\nup turn+8 z\nend")

    def test_all_words_of_turns(self):
        for more in range(1, 10):
            pieces = tuple(("meet", (turn + more) % 8) for turn in range(20))
            self.gives(Board(9, pieces), planned, f"board 9\nrepeat 20\nmeet turn+{more}\nend")

    def test_turn_of_the_innermost_repeat(self):
        text = "board 4\nrepeat 2\nmeet turn+1\nrepeat 3\nmeet turn\nend\npass turn a\nend\nmeet 2"
        inner = (("meet", 0), ("meet", 1), ("meet", 2))
        wanted = (("meet", 1),) + inner + (("pass", 0, "a"), ("meet", 2)) + inner + (("pass", 1, "a"), ("meet", 2))
        self.gives(Board(4, wanted), planned, text)

    def test_size_one(self):
        self.gives(Board(1, (("pass", 0, "a"),) * 3), planned, "board 1\nrepeat 3\npass turn+2 a\nend")
        for line in ["meet turn", "down turn a", "up turn+1 a", "meet 0"]:
            self.raises(BadText(3), planned, "board 1\nrepeat 3\n" + line + "\nend")
            self.raises(BadText(3), planned, "board 1\nrepeat 0\n" + line + "\nend")

    def test_no_and_many_turns(self):
        self.gives(Board(2, (("meet", 0),)), planned, "board 2\nrepeat 0\nmeet turn\nend\nmeet 0")
        self.gives(straight(2), planned, "board 2\nrepeat 99\nend")
        self.gives(straight(2), planned, "board 2" + "\nrepeat 99" * 8 + "\nend" * 8)
        self.gives(straight(2), planned, "board 2\nrepeat 99\nrepeat 0\nmeet 0\nend\nend")
        self.gives(straight(2), planned, "board 2" + "\nrepeat 0" + "\nrepeat 99" * 7 + "\nmeet 0" + "\nend" * 8)
        self.gives(M, planned, "board 2" + "\nrepeat 1" * 8 + "\nmeet turn" + "\nend" * 8)

    def test_eight_deep_and_a_ninth(self):
        self.gives(Board(2, (("meet", 0),) * 2), planned, "board 2\nrepeat 2" + "\nrepeat 1" * 7 + "\nmeet 0" + "\nend" * 8)
        self.raises(BadText(10), planned, "board 2" + "\nrepeat 1" * 9 + "\nmeet 0" + "\nend" * 9)
        self.raises(BadText(10), planned, "board 2" + "\nrepeat 0" * 9)
        again = "\nrepeat 1" * 8 + "\nend" * 8
        self.gives(straight(2), planned, "board 2" + again + again)
        self.raises(BadText(20), planned, "board 2" + "\nrepeat 1" * 8 + "\nend\nrepeat 1" + "\nend" * 9)

    def test_too_many_pieces(self):
        self.assertEqual(len(planned("board 2\nrepeat 60\nmeet 0\nend")), 60)
        self.raises(BadText(5), planned, "board 2\nrepeat 61\nmeet 0\nend")
        self.raises(BadText(6), planned, "board 2\nrepeat 60\nmeet 0\nend\nmeet 0")
        self.assertEqual(len(planned("board 2\nrepeat 6\nrepeat 10\nmeet turn\nend\nend")), 60)
        self.raises(BadText(8), planned, "board 2\nrepeat 6\nrepeat 10\nmeet turn\nend\nend\npass 0 a")
        self.raises(BadText(19), planned, "board 2" + "\nrepeat 99" * 8 + "\nmeet 0" + "\nend" * 8)
        self.assertEqual(len(planned("board 2" + "\nmeet 0" * 60)), 60)
        self.raises(BadText(63), planned, "board 2" + "\nmeet 0" * 61)
        self.raises(BadText(64), planned, "board 2" + "\nmeet 0" * 61 + "\nrepeat 1")
        self.raises(BadText(4), planned, "board 2\nrepeat 61\nmeet 0\nx")
        self.raises(BadText(63), planned, "board 2" + "\nmeet 0" * 61 + "\n")
        self.assertEqual(len(planned("board 3\nrepeat 3\nrepeat 20\nmeet turn\nend\nrepeat 0\n" + "meet 1\n" * 30 + "end\nend")), 60)
        self.raises(BadText(7), planned, "board 2\nrepeat 1\nrepeat 61\nmeet 0\nend\nend")

    def test_missing_end(self):
        self.raises(BadText(3), planned, "board 3\nrepeat 2")
        self.raises(BadText(5), planned, "board 3\nrepeat 2\nrepeat 2\nend")
        self.raises(BadText(4), planned, "board 3\nrepeat 0\nmeet 0")
        self.raises(BadText(3), planned, "board 3\nrepeat 2\n")

    def test_end_without_repeat(self):
        self.raises(BadText(2), planned, "board 3\nend")
        self.raises(BadText(4), planned, "board 3\nrepeat 2\nend\nend\nend")
        self.raises(BadText(5), planned, "board 3\nrepeat 2\nmeet 0\nend\nend")

    def test_turn_outside_of_repeats(self):
        for line in ["meet turn", "pass turn a", "down turn+1 a"]:
            self.raises(BadText(2), planned, "board 3\n" + line)
            self.raises(BadText(5), planned, "board 3\nrepeat 2\nmeet turn\nend\n" + line)

    def test_lines_that_are_not_as_described(self):
        bad = ["", " ", "repeat", "repeat ", "repeat 100", "repeat -1", "repeat 01", "repeat +1", "repeat 2 ", "repeat a",
               "repeat  2", "repeat 2 2", "repeat turn", "end ", " end", "end 1", "End", "meet 2", "meet -1", "meet 00",
               "meet turn+0", "meet turn+10", "meet turn+01", "meet turn-1", "meet turn +1", "meet turn+", "meet Turn",
               "meet turn+a", "turn", "meet turn turn", "pass turn", "pass turn 2/4", "pass turn -1", "pass 3 a",
               "side turn a", "turn turn a", "down 2 a", "board 3", "meet", "pass turn abcdefghi", "pass 0 a ", "meet turn+1 ",
               "repeat turn+1", "meet 0+1"]
        for line in bad:
            self.raises(BadText(2), planned, "board 3\n" + line)
            self.raises(BadText(4), planned, "board 3\nrepeat 2\nmeet turn\n" + line + "\nend\nend\nend")
            self.raises(BadText(3), planned, "board 3\nrepeat 0\n" + line)
        self.raises(BadText(2), planned, "board 3\n")
        self.raises(BadText(4), planned, "board 3\nrepeat 2\nend\n")
        self.raises(BadText(2), planned, "board 3\nmeet 2")

    def test_first_line_and_no_string(self):
        for text in ["", "board", "board 0", "board 10", "board 02", "repeat 2\nend", "end", " board 2", "board 2 "]:
            self.raises(BadText(1), planned, text)
        for thing in odd_things() + [A, ["board 2"], ("board 2",)]:
            if not isinstance(thing, str):
                self.raises(BadText(0), planned, thing)
