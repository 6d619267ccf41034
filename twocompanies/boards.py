"""Boards: their pieces, their texts and their letters."""

from twocompanies.errors import BadFilling, BadPieces, BadSize, BadText
from twocompanies.fillings import filling_numbers, is_filling_from_zero
from twocompanies.lines import heights_for, lines_and_size, piece_read, piece_text, weight_kept
from twocompanies.values import is_letter, is_number, is_place, is_size

GREATEST_SIZE = 9


def is_weight(thing):
    """Whether any value is a number that is at least zero, or a letter."""
    if is_number(thing):
        return thing[0] >= 0
    return is_letter(thing)


def is_piece(size, thing):
    """Whether any value is a piece of a board of this size."""
    if not isinstance(thing, tuple) or len(thing) not in (2, 3):
        return False
    kind = thing[0]
    if not isinstance(kind, str) or not is_place(heights_for(size, kind), thing[1]):
        return False
    if kind == "meet":
        return len(thing) == 2
    return len(thing) == 3 and is_weight(thing[2])


def piece_kept(piece):
    """A piece, with its number without a common divisor."""
    if piece[0] == "meet":
        return piece
    return (piece[0], piece[1], weight_kept(piece[2]))


class Board:
    """A size and a tuple of pieces, which follow one another from left to right."""

    def __init__(self, size, pieces):
        if not is_size(size, GREATEST_SIZE):
            raise BadSize(size)
        if not isinstance(pieces, tuple):
            raise BadPieces(-1)
        for number, piece in enumerate(pieces):
            if not is_piece(size, piece):
                raise BadPieces(number)
        self.size = size
        self.pieces = tuple([piece_kept(piece) for piece in pieces])

    def __len__(self):
        return len(self.pieces)

    def __eq__(self, other):
        return isinstance(other, Board) and self.size == other.size and self.pieces == other.pieces

    def __str__(self):
        lines = [f"board {self.size}"] + [piece_text(piece) for piece in self.pieces]
        return "\n".join(lines)

    @classmethod
    def read(cls, text):
        """The board of a text."""
        lines, size = lines_and_size(text, "board", GREATEST_SIZE)
        pieces = []
        for number in range(1, len(lines)):
            piece = piece_read(size, lines[number].split(" "))
            if piece is None:
                raise BadText(number + 1)
            pieces.append(piece)
        return cls(size, tuple(pieces))


def letters_of(board):
    """The ascending tuple of the letters of a board."""
    letters = {piece[2]: True for piece in board.pieces if len(piece) == 3 and isinstance(piece[2], str)}
    return tuple(sorted(letters))


def is_filled(board):
    """Whether no piece of a board has a letter."""
    return letters_of(board) == ()


def filled(board, filling):
    """The board with the numbers of a filling in the place of its letters."""
    if not is_filling_from_zero(filling):
        raise BadFilling(filling)
    numbers = filling_numbers(filling)
    pieces = []
    for piece in board.pieces:
        if len(piece) == 3 and isinstance(piece[2], str):
            pieces.append((piece[0], piece[1], numbers.get(piece[2], piece[2])))
        else:
            pieces.append(piece)
    return Board(board.size, tuple(pieces))
