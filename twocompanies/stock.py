"""What a house keeps at one time: boards and wishes by names, and promises."""

from twocompanies.errors import NoName
from twocompanies.values import is_lowercase

LONGEST_NAME = 12


class Stock:
    """The boards and the wishes of one size by names, and the promises in the order in which they were given."""

    def __init__(self, size):
        self.size = size
        self.boards = {}
        self.wishes = {}
        self.pledges = []


def is_name(thing):
    """Whether any value is a string of one to twelve letters from a to z."""
    return is_lowercase(thing, LONGEST_NAME)


def is_among(names, thing):
    """Whether any value is one of the names that a dict has."""
    return isinstance(thing, str) and thing in names


def is_known(stock, thing):
    """Whether any value is a name that stands for something."""
    return is_among(stock.boards, thing) or is_among(stock.wishes, thing)


def all_names(stock):
    """The ascending list of all names."""
    return sorted(list(stock.boards) + list(stock.wishes))


def board_named(stock, name):
    """The board for which any value stands as its name."""
    if not is_among(stock.boards, name):
        raise NoName(name)
    return stock.boards[name]


def wish_named(stock, name):
    """The wish for which any value stands as its name."""
    if not is_among(stock.wishes, name):
        raise NoName(name)
    return stock.wishes[name]


def stock_copy(stock):
    """A stock of the same things, which can be changed without changing this one."""
    made = Stock(stock.size)
    made.boards = dict(stock.boards)
    made.wishes = dict(stock.wishes)
    made.pledges = list(stock.pledges)
    return made
