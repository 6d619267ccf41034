"""The faults of promises, which show that they are not kept."""

from twocompanies.boards import letters_of
from twocompanies.ever import first_parting, least_below
from twocompanies.numerals import is_less
from twocompanies.shares import drawn
from twocompanies.wishes import filled_worth, wish_minus, wish_times


def fault_below(wish):
    """The fault of a wish that is sometimes below zero, None if it never is."""
    board = least_below(wish)
    return None if board is None else ("below", board)


def fault_parted(one, other):
    """The fault of two wishes that are not alike, None if they are."""
    board = first_parting(one, other)
    return None if board is None else ("parted", board)


def fault_between(wish, board, low, high):
    """The fault of a wish that has no worth at a board between these bounds, None if it has."""
    letters = letters_of(board)
    if letters != ():
        return ("unfilled", letters[0])
    number = filled_worth(wish, board)
    if (low is not None and is_less(number, low)) or (high is not None and is_less(high, number)):
        return ("worth", number)
    return None


def fault_drawn(board, pairings):
    """The fault of a board that does not draw exactly these pairings, None if it does."""
    found = drawn(board)
    return None if found == pairings else ("drawn", found)


def fault_of(stock, promise):
    """The fault of a promise whose names stand for what is asked, None if it is kept."""
    kind = promise[0]
    if kind == "never":
        return fault_below(stock.wishes[promise[1]])
    if kind == "alike":
        return fault_parted(stock.wishes[promise[1]], stock.wishes[promise[2]])
    if kind == "at least":
        other = wish_times(promise[2], stock.wishes[promise[3]])
        return fault_below(wish_minus(stock.wishes[promise[1]], other))
    if kind == "between":
        return fault_between(stock.wishes[promise[1]], stock.boards[promise[2]], promise[3], promise[4])
    return fault_drawn(stock.boards[promise[1]], promise[2])


def first_unkept(stock):
    """The pair of the first promise that is not kept and its fault, None if all are kept."""
    for promise in stock.pledges:
        fault = fault_of(stock, promise)
        if fault is not None:
            return (promise, fault)
    return None
