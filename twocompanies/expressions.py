"""The EXPRs of speeches, read from the words of a line.

What is read is kept as tuples: an EXPR is a list of pairs of a number and a FACTOR. A FACTOR is a tuple that
begins with "product", "name", "brackets" or "sum". A SET is a list of pairs of a kind and a place or a VAR.
"""

from twocompanies.errors import BadSpeech
from twocompanies.numerals import integer_read, number_read
from twocompanies.values import is_letter, is_place

DEEPEST = 8
GREATEST_COUNT = 6
RESERVED = ("all", "in", "of", "sum", "let", "size", "wish")


class Line:
    """The words of a line, which are taken one after the other, and what NAMEs stand for in it."""

    def __init__(self, number, size, meanings, words):
        self.number = number
        self.size = size
        self.meanings = meanings
        self.words = words
        self.at = 0

    def is_done(self):
        """Whether no word is left."""
        return self.at == len(self.words)

    def ahead(self):
        """The word that is taken as the next one, the empty word if none is left."""
        return "" if self.is_done() else self.words[self.at]

    def take(self):
        """Takes the next word."""
        if self.is_done():
            raise BadSpeech(self.number)
        word = self.words[self.at]
        self.at += 1
        return word

    def need(self, wanted):
        """Takes the next word, which must be this one."""
        if self.take() != wanted:
            raise BadSpeech(self.number)


def is_variable(word):
    """Whether a word is a VAR."""
    return is_letter(word) and word not in RESERVED


def item_read(line, scope):
    """Takes an ITEM; scope has the VARs that stand for something."""
    word = line.take()
    if word == "all":
        return ("all", word)
    place = integer_read(word)
    if is_place(line.size, place):
        return ("place", place)
    if word in scope:
        return ("variable", word)
    if word.startswith("~") and word[1:] in scope:
        return ("others", word[1:])
    raise BadSpeech(line.number)


def set_read(line, scope):
    """Takes a SET, up to the sign that ends it."""
    if line.ahead() == "-":
        line.take()
        return []
    found = [item_read(line, scope)]
    while line.ahead() not in ("|", "]", ":"):
        found.append(item_read(line, scope))
    return found


def product_read(line, scope):
    """Takes what follows on the bracket that begins a product."""
    rows = set_read(line, scope)
    line.need("|")
    columns = set_read(line, scope)
    line.need("]")
    return ("product", rows, columns)


def brackets_read(line, scope, depth):
    """Takes what follows on the bracket that begins an EXPR."""
    inner = expression_read(line, scope, depth)
    line.need(")")
    return ("brackets", inner)


def sum_of_sets_read(line, scope, depth):
    """Takes what follows on the word sum; its VAR stands for nothing in its own SET."""
    variable = line.take()
    if not is_variable(variable):
        raise BadSpeech(line.number)
    line.need("of")
    many = integer_read(line.take())
    if many is None or not 0 <= many <= GREATEST_COUNT:
        raise BadSpeech(line.number)
    line.need("in")
    places = set_read(line, scope)
    line.need(":")
    return ("sum", variable, many, places, factor_read(line, scope + (variable,), depth))


def factor_read(line, scope, depth):
    """Takes a FACTOR that stands so deep in brackets and sums."""
    word = line.take()
    if word == "[":
        return product_read(line, scope)
    if word in line.meanings:
        return ("name", word)
    if word not in ("(", "sum") or depth == DEEPEST:
        raise BadSpeech(line.number)
    if word == "(":
        return brackets_read(line, scope, depth + 1)
    return sum_of_sets_read(line, scope, depth + 1)


def term_read(line, sign, scope, depth):
    """Takes a TERM with this sign, 1 or -1, before it."""
    number = number_read(line.ahead())
    if number is None:
        return ((sign, 1), factor_read(line, scope, depth))
    line.take()
    return ((sign * number[0], number[1]), factor_read(line, scope, depth))


def expression_read(line, scope, depth):
    """Takes an EXPR that stands so deep in brackets and sums."""
    found = [term_read(line, 1, scope, depth)]
    while line.ahead() in ("+", "-"):
        sign = 1 if line.take() == "+" else -1
        found.append(term_read(line, sign, scope, depth))
    return found
