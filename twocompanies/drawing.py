"""Boards put together, turned, and made by plans."""

from twocompanies.boards import GREATEST_SIZE, Board
from twocompanies.checks import need_one_size
from twocompanies.errors import BadText
from twocompanies.lines import lines_and_size
from twocompanies.plans import MOST_PIECES, Block, take_line

OPPOSITE = {"down": "up", "up": "down", "pass": "pass", "meet": "meet"}


def behind(one, other):
    """The board other behind one."""
    need_one_size(one, other)
    return Board(one.size, one.pieces + other.pieces)


def below(one, other):
    """The board other below one; Board raises BadSize for the sum of the sizes."""
    lower = [(piece[0], piece[1] + one.size) + piece[2:] for piece in other.pieces]
    return Board(one.size + other.size, one.pieces + tuple(lower))


def backwards(board):
    """The board, its pieces in the opposite order and turned round."""
    pieces = [(OPPOSITE[piece[0]],) + piece[1:] for piece in board.pieces]
    return Board(board.size, tuple(pieces[::-1]))


def upside_down_piece(size, piece):
    """A piece with the heights counted from the bottom up."""
    greatest = size - 1 if piece[0] == "pass" else size - 2
    return (OPPOSITE[piece[0]], greatest - piece[1]) + piece[2:]


def upside_down(board):
    """The board with the heights counted from the bottom up."""
    return Board(board.size, tuple([upside_down_piece(board.size, piece) for piece in board.pieces]))


def straight(size):
    """The board without pieces."""
    return Board(size, ())


def planned(text):
    """The board of a plan."""
    lines, size = lines_and_size(text, "board", GREATEST_SIZE)
    blocks = [Block(1)]
    for number in range(1, len(lines)):
        if not take_line(size, blocks, lines[number]):
            raise BadText(number + 1)
    if len(blocks) > 1 or blocks[0].many > MOST_PIECES:
        raise BadText(len(lines) + 1)
    return Board(size, tuple([piece for piece, shift in blocks[0].kept]))
