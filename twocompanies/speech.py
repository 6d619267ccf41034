"""Speeches: texts that make wishes."""

from twocompanies.errors import BadSpeech
from twocompanies.expressions import Line, expression_read
from twocompanies.lines import size_read
from twocompanies.numerals import add_number, number_times
from twocompanies.pairings import GREATEST_SIZE
from twocompanies.products import product_of
from twocompanies.values import other_places, sets_of
from twocompanies.wishes import wish_of_numbers

MOST_COUNTED = 3000
CAPITALS = "ABCDEFGHIJKLMNOPQRSTUVWXYZ"
LONGEST_NAME = 8


class Tally:
    """What the FACTORs of a line come to, so far: the numbers of products and of NAMEs.

    NAMEs are kept apart, so that a great wish that occurs often is added up only once.
    """

    def __init__(self, line):
        self.line = line
        self.many = 0
        self.of_products = {}
        self.of_names = {}

    def count_one(self):
        """Counts one more FACTOR."""
        self.many += 1
        if self.many > MOST_COUNTED:
            raise BadSpeech(self.line.number)

    def made_wish(self):
        """The wish that all of this is."""
        numbers = {product: own for product, own in self.of_products.items()}
        for name, factor in self.of_names.items():
            for product, own in self.line.meanings[name].parts:
                add_number(numbers, product, number_times(factor, own))
        return wish_of_numbers(self.line.size, numbers)


def set_given(size, parts, known):
    """The set that the ITEMs of a SET give, None if they give a place twice; known has the sets of the VARs."""
    places = []
    for kind, what in parts:
        if kind == "place":
            places.append(what)
        elif kind == "all":
            places.extend(other_places(size, ()))
        elif kind == "variable":
            places.extend(known[what])
        else:
            places.extend(other_places(size, known[what]))
    once = {place: True for place in places}
    return tuple(sorted(once)) if len(once) == len(places) else None


def add_product(tally, factor, number, known):
    """Adds the product of two SETs, if it is not zero."""
    tally.count_one()
    rows = set_given(tally.line.size, factor[1], known)
    columns = set_given(tally.line.size, factor[2], known)
    if rows is not None and columns is not None and len(rows) == len(columns):
        add_number(tally.of_products, product_of(tally.line.size, rows, columns), number)


def add_sum(tally, factor, number, known):
    """Adds a FACTOR for all sets that its VAR stands for."""
    _, variable, many, parts, inner = factor
    places = set_given(tally.line.size, parts, known)
    chosen = [] if places is None else sets_of(len(places), many)
    if chosen == []:
        tally.count_one()
    for some in chosen:
        deeper = {own: known[own] for own in known}
        deeper[variable] = tuple([places[at] for at in some])
        add_factor(tally, inner, number, deeper)


def add_factor(tally, factor, number, known):
    """Adds a FACTOR times a number."""
    if factor[0] == "product":
        add_product(tally, factor, number, known)
    elif factor[0] == "name":
        tally.count_one()
        add_number(tally.of_names, factor[1], number)
    elif factor[0] == "brackets":
        add_expression(tally, factor[1], number, known)
    else:
        add_sum(tally, factor, number, known)


def add_expression(tally, expression, number, known):
    """Adds an EXPR times a number."""
    for own, factor in expression:
        add_factor(tally, factor, number_times(number, own), known)


def wish_meant(line):
    """Takes the EXPR that is the rest of a line; the wish that it means."""
    expression = expression_read(line, (), 0)
    if not line.is_done():
        raise BadSpeech(line.number)
    tally = Tally(line)
    add_expression(tally, expression, (1, 1), {})
    return tally.made_wish()


def is_name(word):
    """Whether a word is a NAME."""
    return 1 <= len(word) <= LONGEST_NAME and all([sign in CAPITALS for sign in word])


def name_read(line):
    """Takes a line up to the sign behind the NAME that it defines."""
    line.need("let")
    name = line.take()
    if not is_name(name):
        raise BadSpeech(line.number)
    line.need("=")
    return name


def spoken(text):
    """The wish of a speech."""
    if not isinstance(text, str):
        raise BadSpeech(0)
    lines = text.split("\n")
    size = size_read("size", lines[0], GREATEST_SIZE)
    if size is None:
        raise BadSpeech(1)
    meanings = {}
    for number in range(2, len(lines) + 1):
        line = Line(number, size, meanings, lines[number - 1].split(" "))
        if line.ahead() == "wish":
            line.take()
            wish = wish_meant(line)
            if number < len(lines):
                raise BadSpeech(number + 1)
            return wish
        name = name_read(line)
        meanings[name] = wish_meant(line)
    raise BadSpeech(len(lines) + 1)
