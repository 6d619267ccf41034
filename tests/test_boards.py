"""Boards: [1.1] pieces, [1.3] texts, and boards.py."""

from tests.helpers import CompanyTest
from tests.samples import A, M, LONG_NUMBER, changed_texts, odd_things, random_boards
from twocompanies.boards import Board, filled, is_filled, is_piece, is_weight, letters_of
from twocompanies.errors import BadFilling, BadPieces, BadSize, BadText


class Making(CompanyTest):
    def test_sizes(self):
        for size in range(1, 10):
            self.gives(size, lambda n: Board(n, ()).size, size)
        for size in odd_things() + [0, 10, "2", (2,), [2]]:
            self.raises(BadSize(size), Board, size, ())
            self.raises(BadSize(size), Board, size, None)

    def test_no_tuple_of_pieces(self):
        for pieces in [None, True, 0, "meet", [], [("meet", 0)], {}, {"meet": 0}, M]:
            self.raises(BadPieces(-1), Board, 2, pieces)

    def test_number_of_first_bad_piece(self):
        good = ("meet", 0)
        for bad in odd_things() + [["meet", 0], ("meet", 1), ("meet", -1), ("meet", True), ("down", 0, 1), ("x", 0)]:
            self.raises(BadPieces(0), Board, 2, (bad,))
            self.raises(BadPieces(2), Board, 2, (good, good, bad, good, bad))

    def test_numbers_are_kept_without_common_divisors(self):
        board = Board(2, (("down", 0, (4, 2)), ("pass", 1, (0, 7)), ("up", 0, (6, 4)), ("meet", 0), ("pass", 0, "a")))
        wanted = (("down", 0, (2, 1)), ("pass", 1, (0, 1)), ("up", 0, (3, 2)), ("meet", 0), ("pass", 0, "a"))
        self.gives(wanted, lambda some: some.pieces, board)
        self.assertEqual(board, Board(2, wanted))

    def test_by_name(self):
        self.assertEqual(Board(pieces=(("meet", 0),), size=2), M)
        self.assertEqual(Board.read(text=str(A)), A)

    def test_equality(self):
        self.assertTrue(M == Board(2, (("meet", 0),)))
        self.assertFalse(M != Board(2, (("meet", 0),)))
        for other in odd_things() + [A, Board(3, (("meet", 0),)), Board(2, ()), (2, (("meet", 0),)), str(M), 2]:
            self.assertIs(M == other, False)
            self.assertIs(M != other, True)
            self.assertIs(other == M, False)

    def test_length(self):
        self.assertEqual([len(Board(3, (("meet", 1),) * many)) for many in (0, 1, 60)], [0, 1, 60])


class Pieces(CompanyTest):
    def test_weights(self):
        for weight in [(0, 1), (0, 9), (4, 2), (LONG_NUMBER, LONG_NUMBER), "a", "z", "abcdefgh", "turn"]:
            self.gives(True, is_weight, weight)
        bad = [(-1, 1), (1, 0), (1, -2), (True, 1), (1, True), [1, 1], (1,), (1, 1, 1), 1, 0, True, None, "", "A",
               "abcdefghi", "a b", "a1", "a\n", "1", "1/2", ("a",), ("a", 1), (1, "a"), (None, 1)]
        for weight in bad + odd_things():
            self.gives(False, is_weight, weight)

    def test_heights(self):
        for size in range(1, 10):
            for k in range(-1, 11):
                self.gives(0 <= k < size - 1, is_piece, size, ("down", k, "a"))
                self.gives(0 <= k < size - 1, is_piece, size, ("up", k, (1, 2)))
                self.gives(0 <= k < size - 1, is_piece, size, ("meet", k))
                self.gives(0 <= k < size, is_piece, size, ("pass", k, (0, 5)))

    def test_wrong_pieces(self):
        bad = [("down", 0), ("up", 0), ("pass", 0), ("meet", 0, "a"), ("meet",), ("meet", "0"), ("meet", None),
               ("meet", False), ("down", False, "a"), ("pass", 0, (-1, 2)), ("pass", 0, (1, 0)), ("pass", 0, ""),
               ("pass", 0, [1, 1]), ["pass", 0, (1, 1)], ("pass", 0, (1, 1), 0), ("Down", 0, "a"), (0, 0, "a"),
               (None, 0), ((), 0), ([], 0, "a"), (M, 0, "a"), ("board", 2), "meet 0", (), ("repeat", 0), ("", 0)]
        for thing in bad + odd_things():
            self.gives(False, is_piece, 4, thing)

    def test_parameters_by_name(self):
        self.assertTrue(is_piece(thing=("meet", 0), size=2) and is_weight(thing="a"))


class Letters(CompanyTest):
    def test_letters(self):
        board = Board(3, (("pass", 0, "b"), ("down", 1, "aa"), ("meet", 0), ("up", 0, "b"), ("pass", 2, (1, 2))))
        self.gives(("aa", "b"), letters_of, board)
        self.gives((), letters_of, Board(3, (("pass", 2, (1, 2)), ("meet", 1))))
        self.gives(False, is_filled, board)
        self.gives(True, is_filled, M)
        self.gives(True, is_filled, Board(1, ()))
        self.gives(("a",), letters_of, A)

    def test_filled(self):
        self.gives((("down", 0, (2, 1)), ("up", 0, (1, 2))), lambda b, f: filled(b, f).pieces, A, (("a", (4, 2)),))
        board = Board(2, (("pass", 0, "b"), ("down", 0, "a"), ("up", 0, "b"), ("meet", 0), ("pass", 1, "c")))
        filling = (("a", (0, 3)), ("b", (6, 4)), ("zz", (1, 1)))
        wanted = (("pass", 0, (3, 2)), ("down", 0, (0, 1)), ("up", 0, (3, 2)), ("meet", 0), ("pass", 1, "c"))
        self.gives(Board(2, wanted), filled, board, filling)
        self.gives(board, filled, board, ())
        self.gives(board, lambda b, f: filled(filling=f, board=b), board, (("x", (1, 1)),))

    def test_wrong_fillings(self):
        bad = [(("b", (1, 1)), ("a", (1, 1))), (("a", (1, 1)), ("a", (1, 1))), (("a", (-1, 2)),), (("a", 1),),
               (("a", "b"),), (("A", (1, 1)),), (("", (1, 1)),), (["a", (1, 1)],), [("a", (1, 1))], ("a", (1, 1)),
               (("a", (1, 0)),), (("a", (True, 1)),), (("a", (1, True)),), (("a", (1, 1), 1),), (("abcdefghi", (1, 1)),),
               (("a", [1, 1]),), {"a": (1, 1)}, (("x", (-1, 1)),), ((1, (1, 1)),), None, "a", (("a",),)]
        for filling in bad + odd_things():
            self.raises(BadFilling(filling), filled, A, filling)
            self.raises(BadFilling(filling), filled, M, filling)


class Texts(CompanyTest):
    def test_text(self):
        self.gives("board 2\ndown 0 a\nup 0 1/2", str, A)
        self.gives("board 1", str, Board(1, ()))
        self.gives("board 3\npass 2 0\nmeet 1\nup 1 3", str, Board(3, (("pass", 2, (0, 4)), ("meet", 1), ("up", 1, (6, 2)))))

    def test_texts_are_read_back(self):
        for board in random_boards(("a", "zz", "abcdefgh"), 9, 12, 120):
            self.gives(board, Board.read, str(board))
        self.assertEqual(Board.read(str(Board(1, (("pass", 0, (LONG_NUMBER, 6)),)))).pieces, (("pass", 0, (LONG_NUMBER, 6)),))

    def test_no_string(self):
        for thing in odd_things() + [A, ("board 2",), ["board 2"], 2]:
            if not isinstance(thing, str):
                self.raises(BadText(0), Board.read, thing)

    def test_first_line(self):
        for line in ["", " ", "board", "board ", "board 0", "board 10", "board -1", "board +1", "board 01", "board 2 ",
                     " board 2", "board  2", "Board 2", "board 2.0", "board a", "board 2/1", "wish 2", "meet 0", "board\t2",
                     "board 1_0", "board 2 3", "\n"]:
            self.raises(BadText(1), Board.read, line)
            self.raises(BadText(1), Board.read, line + "\nmeet 7")

    def test_lines_of_pieces(self):
        bad = ["", " ", "meet", "meet ", "meet 2", "meet -1", "meet 00", "meet +0", "meet 0 ", " meet 0", "meet  0",
               "meet 0 1", "meet a", "meet turn", "down 0", "down 0 ", "down 2 a", "up 0 2/4", "up 0 2/1", "up 0 0/1",
               "up 0 -1", "up 0 +1", "up 0 -0", "up 0 01", "up 0 1/02", "up 0 1/0", "up 0 1/-2", "up 0 1/2/3", "up 0 /2",
               "up 0 1/", "up 0 1.5", "pass 3 a", "pass 0 A", "pass 0 abcdefghi", "pass 0 a1", "pass 0 a b", "pass 00 a",
               "side 0 a", "end", "repeat 2", "board 3", "Meet 0", "meet,0", "pass 0 1_0", "down 0 a/b", "pass 0 -a"]
        good = "meet 1\ndown 1 a\nup 0 7/3\npass 2 abcdefgh\npass 0 0"
        for line in bad:
            self.raises(BadText(2), Board.read, "board 3\n" + line)
            self.raises(BadText(7), Board.read, "board 3\n" + good + "\n" + line + "\nmeet 0\nmeet 9")
        self.raises(BadText(2), Board.read, "board 1\nmeet 0")
        self.raises(BadText(2), Board.read, "board 1\n")
        self.raises(BadText(3), Board.read, "board 2\nmeet 0\n")

    def test_texts_changed_in_one_place(self):
        for board in [A, Board(3, (("pass", 2, (3, 10)), ("meet", 1), ("up", 1, "ab")))]:
            for text in changed_texts(str(board)):
                lines = text.split("\n")
                first = None
                for many in range(1, len(lines) + 1):
                    try:
                        kept = Board.read("\n".join(lines[:many]))
                    except BadText as error:
                        first = error.line
                        self.assertEqual(first, many)
                        break
                if first is None:
                    self.assertEqual(str(kept), text)
                else:
                    self.raises(BadText(first), Board.read, text)
