"""Values that several tests use: boards, and things of every kind."""

import random

from twocompanies.boards import Board
from twocompanies.consoles import Console
from twocompanies.houses import House
from twocompanies.products import products
from twocompanies.tables import Table
from twocompanies.wishes import Wish, wish_of

A = Board(2, (("down", 0, "a"), ("up", 0, (1, 2))))
M = Board(2, (("meet", 0),))

LONG_NUMBER = 10 ** 39 + 7


def odd_things():
    """Values of all kinds, none of which is a size, tuple of pieces, way, tangle, sum, pairing or product by chance."""
    deep = "x"
    for _ in range(11):
        deep = [deep]
    return [
        None, True, False, -1, -LONG_NUMBER, LONG_NUMBER, "a\nb", "~" * 2000, "Z", "aB", "0", "abcdefghi",
        [], [()], {}, {"a": 1}, {0: (1, 1)}, deep, (None,), (True,), (False, 0), ((),), ([],), ({},), ("a",), ("",),
        ("down", 0), ("meet", 0, (1, 1)), (("meet",),), ((("a", True),), (1, 1)), ((("a", 1),), [1, 1]),
        (0, True), ((0, 1), (2, True)), [(0, 1), (2, 3)], Board(1, ()), (Board(1, ()),),
        [Board(2, ())], Wish(2, ()), (Wish(1, ()),), Table((((1, 1),),)), House(2), (House(1),), Console(House(1)),
        ((0, 0), (0, 0), 0), ("board", 1), (LONG_NUMBER, 0), (1, 0), (0, 0), (1, -1), (1, 2, 3),
    ]


def random_weight(source, letters):
    """A weight: sometimes a letter, sometimes zero."""
    if letters and source.random() < 0.5:
        return source.choice(letters)
    return (source.randint(0, 5), source.randint(1, 4))


def random_piece(source, size, letters):
    """A piece of a board of this size."""
    kinds = ["down", "up", "meet", "pass"] if size > 1 else ["pass"]
    kind = source.choice(kinds)
    if kind == "meet":
        return ("meet", source.randrange(size - 1))
    k = source.randrange(size if kind == "pass" else size - 1)
    return (kind, k, random_weight(source, letters))


def random_board(seed, size, many, letters=()):
    """A board that depends on the seed alone."""
    source = random.Random(seed)
    return Board(size, tuple(random_piece(source, size, letters) for _ in range(many)))


def random_boards(letters=(), most_size=4, most_pieces=6, many=60):
    """Boards of several sizes."""
    return [random_board(seed, 1 + seed % most_size, seed % (most_pieces + 1), letters) for seed in range(many)]


def random_number(source, most=9):
    """A number that is not zero, above or below it."""
    return (source.choice([-1, 1]) * source.randint(1, most), source.randint(1, 4))


def random_wish(seed, size, many):
    """A wish of at most so many parts that depends on the seed alone."""
    source = random.Random(seed)
    return wish_of(size, tuple((source.choice(products(size)), random_number(source)) for _ in range(many)))


def random_wishes(most_size=4, most_parts=6, many=40):
    """Wishes of several sizes, the empty one among them."""
    return [random_wish(seed, 1 + seed % most_size, seed % (most_parts + 1)) for seed in range(many)]


def changed_texts(text, signs="01234 \n-+*/^()ab"):
    """The texts that differ from a text in one place: a sign left out, put in or exchanged."""
    found = []
    for at in range(len(text) + 1):
        for sign in signs:
            found.append(text[:at] + sign + text[at:])
            if at < len(text):
                found.append(text[:at] + sign + text[at + 1:])
        if at < len(text):
            found.append(text[:at] + text[at + 1:])
    return [some for some in found if some != text]
