"""Wishes: sums of products with numbers as factors, and their worths."""

from twocompanies.checks import need_filled, need_one_size
from twocompanies.errors import BadParts, BadText
from twocompanies.lines import lines_and_size
from twocompanies.numerals import add_number, integer_read, number_read, number_text, number_times, reduced
from twocompanies.pairings import GREATEST_SIZE, need_size
from twocompanies.products import is_product, known_worth, product_of
from twocompanies.sums import number_of, plus, scaled
from twocompanies.tables import table_of
from twocompanies.values import is_number, is_pair


def is_counted_product(size, thing):
    """Whether any value is a pair of a product of this size and a number."""
    return is_pair(thing) and is_product(size, thing[0]) and is_number(thing[1])


def is_part_at(size, parts, number):
    """Whether the item of this number is the part of a wish, if the items before it are."""
    part = parts[number]
    if not is_counted_product(size, part) or part[1][0] == 0:
        return False
    return number == 0 or part[0] > parts[number - 1][0]


def places_text(places):
    """The text of a set."""
    return " ".join([str(place) for place in places])


def part_text(part):
    """The line of a part."""
    (rows, columns), number = part
    return f"{number_text(number)} {places_text(rows)} | {places_text(columns)}"


def part_read(line):
    """The part of a line; a pair that is no part for some other lines, and None for the rest."""
    words = line.split(" ")
    if "|" not in words:
        return None
    bar = words.index("|")
    rows = tuple([integer_read(word) for word in words[1:bar]])
    columns = tuple([integer_read(word) for word in words[bar + 1:]])
    return ((rows, columns), number_read(words[0]))


class Wish:
    """A size and an ascending tuple of parts, which are pairs of a product and its number."""

    def __init__(self, size, parts):
        need_size(size)
        if not isinstance(parts, tuple):
            raise BadParts(-1)
        for number in range(len(parts)):
            if not is_part_at(size, parts, number):
                raise BadParts(number)
        self.size = size
        self.parts = tuple([(product, reduced(own)) for product, own in parts])

    def __len__(self):
        return len(self.parts)

    def __eq__(self, other):
        return isinstance(other, Wish) and self.size == other.size and self.parts == other.parts

    def __str__(self):
        lines = [f"wish {self.size}"] + [part_text(part) for part in self.parts]
        return "\n".join(lines)

    @classmethod
    def read(cls, text):
        """The wish of a text."""
        lines, size = lines_and_size(text, "wish", GREATEST_SIZE)
        parts = [part_read(line) for line in lines[1:]]
        for number in range(len(parts)):
            if not is_part_at(size, parts, number):
                raise BadText(number + 2)
        return cls(size, tuple(parts))


def wish_of_numbers(size, numbers):
    """The wish of a dict from products to their numbers, which may be zero."""
    return Wish(size, tuple(sorted([(product, number) for product, number in numbers.items() if number[0] != 0])))


def wish_of(size, pairs):
    """The wish that is the sum of pairs of a product and a number, in any order."""
    need_size(size)
    if not isinstance(pairs, tuple):
        raise BadParts(-1)
    numbers = {}
    for at, pair in enumerate(pairs):
        if not is_counted_product(size, pair):
            raise BadParts(at)
        add_number(numbers, pair[0], reduced(pair[1]))
    return wish_of_numbers(size, numbers)


def one_product(size, rows, columns):
    """The wish with the product of two sets alone."""
    return Wish(size, ((product_of(size, rows, columns), (1, 1)),))


def whole(size):
    """The wish with the product of all rows and all columns alone."""
    need_size(size)
    return one_product(size, tuple(range(size)), tuple(range(size)))


def wish_plus(one, other):
    """The first wish plus the second one."""
    need_one_size(one, other)
    return wish_of(one.size, one.parts + other.parts)


def wish_times(number, wish):
    """A wish times a number."""
    factor = reduced(number)
    return wish_of(wish.size, tuple([(product, number_times(factor, own)) for product, own in wish.parts]))


def wish_minus(one, other):
    """The first wish minus the second one."""
    return wish_plus(one, wish_times((-1, 1), other))


def wish_backwards(wish):
    """The wish with rows and columns exchanged in each product."""
    size = wish.size
    return wish_of(size, tuple([(product_of(size, columns, rows), own) for (rows, columns), own in wish.parts]))


def turned_set(size, places):
    """The set with the places counted from the bottom up."""
    return tuple([size - 1 - place for place in places[::-1]])


def wish_upside_down(wish):
    """The wish with all places counted from the bottom up."""
    size = wish.size
    parts = []
    for (rows, columns), own in wish.parts:
        parts.append((product_of(size, turned_set(size, rows), turned_set(size, columns)), own))
    return wish_of(size, tuple(parts))


def worth_of_sums(wish, table):
    """The worth of a wish at a table of sums of its size."""
    known = {}
    found = ()
    for product, number in wish.parts:
        found = plus(found, scaled(number, known_worth(table, product, known)))
    return found


def worth(wish, board):
    """The worth of a wish at a board, a sum."""
    need_one_size(wish, board)
    return worth_of_sums(wish, table_of(board))


def worth_at(wish, table):
    """The worth of a wish at a table of numbers, a number."""
    need_one_size(wish, table)
    return number_of(worth_of_sums(wish, table.sums()))


def filled_worth(wish, board):
    """The worth of a wish at a filled board, a number."""
    need_one_size(wish, board)
    need_filled(board)
    return number_of(worth(wish, board))
