"""The lines of plans, with repeats in one another."""

from twocompanies.lines import heights_for, piece_read
from twocompanies.numerals import integer_read

MOST_PIECES = 60
DEEPEST = 8
MOST_TIMES = 99
TURNS = ("turn", "turn+1", "turn+2", "turn+3", "turn+4", "turn+5", "turn+6", "turn+7", "turn+8", "turn+9")


class Block:
    """What stands in a repeat, or in the whole plan, so far.

    It counts its pieces even where it does not keep them: more pieces than a board may have
    can still come to nothing within a repeat of 0 times.
    """

    def __init__(self, times):
        self.times = times
        self.many = 0
        self.kept = []

    def put(self, piece, shift):
        """A piece is put behind; a shift that is not None is added to the turn to give its height."""
        self.many += 1
        self.kept.append((piece, shift))

    def put_repeat(self, size, inner):
        """All turns of a repeat that has ended are put behind."""
        many = inner.many * inner.times
        self.many += many
        if many <= MOST_PIECES:
            self.kept.extend([(piece, None) for piece in all_turns(size, inner.times, inner.kept)])


def turned_piece(size, piece, shift, turn):
    """A piece as it stands in one turn of its repeat."""
    if shift is None:
        return piece
    height = (turn + shift) % heights_for(size, piece[0])
    return (piece[0], height) + piece[2:]


def all_turns(size, times, kept):
    """The list of what stands in a repeat, one copy for each turn."""
    return [turned_piece(size, piece, shift, turn) for turn in range(times) for piece, shift in kept]


def take_repeat(blocks, words):
    """Begins a repeat; whether that can be."""
    times = integer_read(words[1]) if len(words) == 2 else None
    if times is None or not 0 <= times <= MOST_TIMES or len(blocks) > DEEPEST:
        return False
    blocks.append(Block(times))
    return True


def take_end(size, blocks, words):
    """Ends the innermost repeat; whether that can be."""
    if len(words) != 1 or len(blocks) == 1:
        return False
    inner = blocks.pop()
    blocks[-1].put_repeat(size, inner)
    return True


def take_piece(size, blocks, words):
    """Puts the piece of a line into the innermost block; whether that can be."""
    shift = None
    plain = words
    if len(words) >= 2 and words[1] in TURNS:
        if len(blocks) == 1:
            return False
        shift = TURNS.index(words[1])
        plain = [words[0], "0"] + words[2:]
    piece = piece_read(size, plain)
    if piece is None:
        return False
    blocks[-1].put(piece, shift)
    return True


def take_line(size, blocks, line):
    """Takes a line of a plan behind the first one; whether it can stand where it stands."""
    words = line.split(" ")
    if words[0] == "repeat":
        return take_repeat(blocks, words)
    if words[0] == "end":
        return take_end(size, blocks, words)
    return take_piece(size, blocks, words)
