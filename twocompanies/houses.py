"""Houses: boards and wishes by names, with promises that no change breaks."""

from twocompanies.changes import is_change, make_change, stock_after
from twocompanies.coordinates import coordinates
from twocompanies.errors import BadChange, BadPromise, NothingToUndo, Unkept
from twocompanies.faults import fault_of, first_unkept
from twocompanies.housetexts import house_lines, stock_read
from twocompanies.pairings import need_size
from twocompanies.promises import is_promise, promise_kept
from twocompanies.shares import shares
from twocompanies.stock import Stock, all_names, board_named, stock_copy, wish_named
from twocompanies.wishes import worth


class House:
    """A house of boards, wishes and promises of one size.

    What it keeps is not changed, but replaced by each deal, so that each deal can be recorded with what was before it.
    """

    def __init__(self, size):
        need_size(size)
        self.size = size
        self.stock = Stock(size)
        self.done = []

    def __eq__(self, other):
        return (isinstance(other, House) and self.size == other.size and self.stock.boards == other.stock.boards
                and self.stock.wishes == other.stock.wishes and self.stock.pledges == other.stock.pledges)

    def __str__(self):
        return "\n".join(house_lines(self.stock))

    @classmethod
    def read(cls, text):
        """The house of a text, without deals."""
        stock = stock_read(text)
        house = cls(stock.size)
        house.stock = stock
        return house

    def copy(self):
        """An equal house with the same deals."""
        house = House(self.size)
        house.stock = self.stock
        house.done = list(self.done)
        return house

    def names(self):
        """The ascending tuple of all names."""
        return tuple(all_names(self.stock))

    def board(self, name):
        """The board with a name."""
        return board_named(self.stock, name)

    def wish(self, name):
        """The wish with a name."""
        return wish_named(self.stock, name)

    def promises(self):
        """The tuple of the promises, in the order in which they were given."""
        return tuple(self.stock.pledges)

    def deals(self):
        """The tuple of the deals, in the order in which they were done."""
        return tuple([changes for changes, before in self.done])

    def do_if_kept(self, changes, after):
        """Does a deal that leads to this stock, if all promises are kept there."""
        unkept = first_unkept(after)
        if unkept is not None:
            raise Unkept(unkept[0], unkept[1])
        self.done.append((changes, self.stock))
        self.stock = after

    def deal(self, changes):
        """Does a deal of changes."""
        self.do_if_kept(changes, stock_after(self.stock, changes))

    def change(self, change):
        """Does a deal of one change."""
        if not is_change(change):
            raise BadChange(0)
        after = stock_copy(self.stock)
        make_change(after, change)
        self.do_if_kept((change,), after)

    def would(self, changes):
        """The pair of the first promise that would not be kept after a deal and its fault, None if all would be."""
        return first_unkept(stock_after(self.stock, changes))

    def undo(self):
        """Undoes the last deal."""
        if self.done == []:
            raise NothingToUndo()
        _, before = self.done.pop()
        self.stock = before

    def worth(self, wish, board):
        """The worth of a wish at a board, a sum."""
        return worth(wish_named(self.stock, wish), board_named(self.stock, board))

    def shares(self, board):
        """The tuple of the shares of a board in all pairings."""
        return shares(board_named(self.stock, board))

    def coordinates(self, wish):
        """The tuple of the coordinates of a wish."""
        return coordinates(wish_named(self.stock, wish))

    def judged(self, promise):
        """The tuple that tells that a promise is kept, or its fault."""
        if not is_promise(self.stock, promise):
            raise BadPromise(promise)
        fault = fault_of(self.stock, promise_kept(promise))
        return ("kept",) if fault is None else fault
