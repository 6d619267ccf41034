"""Lines of texts: the first one, with a size, and the lines of pieces."""

from twocompanies.errors import BadText
from twocompanies.numerals import integer_read, number_read, number_text, reduced
from twocompanies.values import is_letter, is_size


def size_read(word, line, greatest):
    """The size in a first line that begins with this word, None for another line."""
    words = line.split(" ")
    if len(words) != 2 or words[0] != word:
        return None
    size = integer_read(words[1])
    return size if is_size(size, greatest) else None


def lines_and_size(text, word, greatest):
    """The list of the lines of a text, and the size in its first line; raises BadText if that is not as described."""
    if not isinstance(text, str):
        raise BadText(0)
    lines = text.split("\n")
    size = size_read(word, lines[0], greatest)
    if size is None:
        raise BadText(1)
    return (lines, size)


def heights_for(size, kind):
    """How many heights k a piece of this kind can have, 0 for what is no kind."""
    if kind == "pass":
        return size
    if kind in ("down", "up", "meet"):
        return size - 1
    return 0


def weight_kept(weight):
    """A weight, without a common divisor if it is a number."""
    return weight if isinstance(weight, str) else reduced(weight)


def weight_text(weight):
    """The text of a weight that is kept."""
    return weight if isinstance(weight, str) else number_text(weight)


def weight_read(word):
    """The weight that a word is, None if it is none."""
    if is_letter(word):
        return word
    number = number_read(word)
    if number is None or number[0] < 0:
        return None
    return number


def piece_text(piece):
    """The line of a piece."""
    if piece[0] == "meet":
        return f"meet {piece[1]}"
    return f"{piece[0]} {piece[1]} {weight_text(piece[2])}"


def piece_read(size, words):
    """The piece of a line, given by its words; None for other words."""
    if len(words) != (2 if words[0] == "meet" else 3):
        return None
    height = integer_read(words[1])
    if height is None or not 0 <= height < heights_for(size, words[0]):
        return None
    if words[0] == "meet":
        return ("meet", height)
    weight = weight_read(words[2])
    return None if weight is None else (words[0], height, weight)
