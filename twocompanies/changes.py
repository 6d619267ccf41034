"""Changes of a house, and deals, which are made of changes."""

from twocompanies.boards import Board, filled, is_piece, is_weight
from twocompanies.errors import BadChange, BadName, BadParts, BadPiece, BadPromise, CompanyError, InUse, NameTaken
from twocompanies.errors import NoName, NoPromise, OtherSizes
from twocompanies.products import need_product
from twocompanies.promises import has_name, is_given, is_promise, promise_kept, renamed
from twocompanies.stock import board_named, is_among, is_known, is_name, stock_copy, wish_named
from twocompanies.values import is_number, is_place, kind_of
from twocompanies.wishes import Wish, wish_of


def need_free(stock, name, things):
    """Raises BadName, then NameTaken for a name that stands for one of these things."""
    if not is_name(name):
        raise BadName(name)
    if is_among(things, name):
        raise NameTaken(name)


def put_board(stock, change):
    """Lets a name stand for a board."""
    _, name, board = change
    need_free(stock, name, stock.wishes)
    if board.size != stock.size:
        raise OtherSizes()
    stock.boards[name] = board


def put_wish(stock, change):
    """Lets a name stand for a wish."""
    _, name, wish = change
    need_free(stock, name, stock.boards)
    if wish.size != stock.size:
        raise OtherSizes()
    stock.wishes[name] = wish


def things_of(stock, name):
    """The dict that has any value as a name."""
    if not is_known(stock, name):
        raise NoName(name)
    return stock.boards if name in stock.boards else stock.wishes


def drop(stock, change):
    """Lets a name stand for nothing."""
    _, name = change
    things = things_of(stock, name)
    if any([has_name(promise, name) for promise in stock.pledges]):
        raise InUse(name)
    del things[name]


def rename(stock, change):
    """Gives another name to what has a name."""
    _, name, other = change
    things = things_of(stock, name)
    need_free(stock, other, stock.boards)
    need_free(stock, other, stock.wishes)
    things[other] = things[name]
    del things[name]
    stock.pledges = [renamed(promise, name, other) for promise in stock.pledges]


def need_piece_number(many, at):
    """Raises BadPiece for any value that is not a number of one of so many pieces."""
    if not is_place(many, at):
        raise BadPiece(at)


def insert_piece(stock, change):
    """Puts a piece into a board."""
    _, name, at, piece = change
    pieces = board_named(stock, name).pieces
    need_piece_number(len(pieces) + 1, at)
    if not is_piece(stock.size, piece):
        raise BadPiece(piece)
    stock.boards[name] = Board(stock.size, pieces[:at] + (piece,) + pieces[at:])


def remove_piece(stock, change):
    """Takes a piece out of a board."""
    _, name, at = change
    pieces = board_named(stock, name).pieces
    need_piece_number(len(pieces), at)
    stock.boards[name] = Board(stock.size, pieces[:at] + pieces[at + 1:])


def weigh_piece(stock, change):
    """Gives another weight to a piece of a board."""
    _, name, at, weight = change
    pieces = board_named(stock, name).pieces
    need_piece_number(len(pieces), at)
    if pieces[at][0] == "meet":
        raise BadPiece(at)
    if not is_weight(weight):
        raise BadPiece(weight)
    piece = (pieces[at][0], pieces[at][1], weight)
    stock.boards[name] = Board(stock.size, pieces[:at] + (piece,) + pieces[at + 1:])


def fill_board(stock, change):
    """Fills a board."""
    _, name, filling = change
    stock.boards[name] = filled(board_named(stock, name), filling)


def add_part(stock, change):
    """Adds a number to the number of a product in a wish."""
    _, name, product, number = change
    wish = wish_named(stock, name)
    need_product(stock.size, product)
    if not is_number(number):
        raise BadParts(0)
    stock.wishes[name] = wish_of(stock.size, wish.parts + ((product, number),))


def give_promise(stock, change):
    """Gives a promise, behind all others."""
    _, promise = change
    if not is_promise(stock, promise) or is_given(stock, promise):
        raise BadPromise(promise)
    stock.pledges.append(promise_kept(promise))


def release_promise(stock, change):
    """Takes a promise back."""
    _, promise = change
    if not is_given(stock, promise):
        raise NoPromise(promise)
    stock.pledges.remove(promise_kept(promise))


LENGTHS = {"board": 3, "wish": 3, "drop": 2, "rename": 3, "insert": 4, "remove": 3, "weigh": 4, "fill": 3, "part": 4,
           "promise": 2, "release": 2}
MAKERS = {"board": put_board, "wish": put_wish, "drop": drop, "rename": rename, "insert": insert_piece,
          "remove": remove_piece, "weigh": weigh_piece, "fill": fill_board, "part": add_part, "promise": give_promise,
          "release": release_promise}


def is_change(thing):
    """Whether any value is a tuple that can be a change, if only the house is fit for it."""
    kind = kind_of(thing)
    if kind is None or LENGTHS.get(kind) != len(thing):
        return False
    if kind == "board":
        return isinstance(thing[2], Board)
    return kind != "wish" or isinstance(thing[2], Wish)


def make_change(stock, change):
    """Makes a change; raises its own errors."""
    make = MAKERS[change[0]]
    make(stock, change)


def stock_after(stock, changes):
    """The stock as it is after changes, kept or not; raises BadChange with the first one that cannot be made."""
    if not isinstance(changes, tuple):
        raise BadChange(-1)
    after = stock_copy(stock)
    for number, change in enumerate(changes):
        if not is_change(change):
            raise BadChange(number)
        try:
            make_change(after, change)
        except CompanyError:
            raise BadChange(number) from None
    return after
