"""Boards that decide: a wish that is at least zero at all of them is never below zero."""

from twocompanies.boards import Board, is_filled
from twocompanies.coordinates import coordinates
from twocompanies.errors import BadBoards, CompanyError, OtherSizes
from twocompanies.ever import is_never_below
from twocompanies.numerals import is_less, number_over, number_plus, number_times
from twocompanies.pairings import pairings
from twocompanies.papers import is_paper
from twocompanies.plainform import wish_with
from twocompanies.shares import filled_shares
from twocompanies.values import is_place
from twocompanies.wishes import Wish


def need_boards(boards):
    """Raises BadBoards, then OtherSizes, for what are not filled boards of one size."""
    if not isinstance(boards, tuple) or boards == ():
        raise BadBoards(-1)
    for number, board in enumerate(boards):
        if not isinstance(board, Board) or not is_filled(board):
            raise BadBoards(number)
    if not all([board.size == boards[0].size for board in boards]):
        raise OtherSizes()


def are_boards(thing):
    """Whether any value is a tuple of filled boards of one size, at least one of them."""
    try:
        need_boards(thing)
    except CompanyError:
        return False
    return True


def told_alone(some):
    """The number of the pairing that is the only one with a share above zero, None if there is no such pairing."""
    above = [at for at, number in enumerate(some) if number[0] > 0]
    return above[0] if len(above) == 1 else None


def all_told(boards):
    """The list of the numbers of the pairings that boards have a share in alone, None for each other board."""
    return [told_alone(filled_shares(board)) for board in boards]


def lacking(boards):
    """The ascending tuple of the pairings that no board has a share in alone."""
    need_boards(boards)
    told = all_told(boards)
    return tuple([pairing for at, pairing in enumerate(pairings(boards[0].size)) if at not in told])


def do_decide(boards):
    """Whether each wish that is at least zero at all of these boards is never below zero."""
    return lacking(boards) == ()


def spare(boards):
    """The ascending tuple of the numbers of the boards without which the others decide, too."""
    if not do_decide(boards):
        return ()
    told = all_told(boards)
    return tuple([number for number, at in enumerate(told) if at is None or told.count(at) > 1])


def misleading_wish(boards, at):
    """A wish that is at least zero at all boards, but below zero in the pairing of this number."""
    enough = (0, 1)
    for board in boards:
        some = filled_shares(board)
        others = (0, 1)
        for number in some[:at] + some[at + 1:]:
            others = number_plus(others, number)
        # A board without a share in the pairing is worth at least zero anyhow, and no board has this share alone.
        if some[at][0] > 0 and is_less(enough, number_over(some[at], others)):
            enough = number_over(some[at], others)
    size = boards[0].size
    return wish_with(size, tuple([(-1, 1) if other == at else enough for other in range(len(pairings(size)))]))


def judge_boards(boards):
    """The paper that boards decide, or that a wish misleads them."""
    need_boards(boards)
    told = all_told(boards)
    kinds = pairings(boards[0].size)
    for at in range(len(kinds)):
        if at not in told:
            return ("misled", misleading_wish(boards, at))
    return ("decide", tuple([told.index(at) for at in range(len(kinds))]))


def do_numbers_decide(boards, thing):
    """Whether any value is a tuple with the number of a board for each pairing that has a share in it alone."""
    if not isinstance(thing, tuple) or not all([is_place(len(boards), number) for number in thing]):
        return False
    told = all_told(boards)
    return [told[number] for number in thing] == list(range(len(pairings(boards[0].size))))


def worth_of_shares(numbers, some):
    """The sum of coordinates, each multiplied by its share."""
    found = (0, 1)
    for one, other in zip(numbers, some):
        found = number_plus(found, number_times(one, other))
    return found


def does_mislead(boards, thing):
    """Whether any value is a wish that is at least zero at all boards, but not never below zero."""
    if not isinstance(thing, Wish) or thing.size != boards[0].size or is_never_below(thing):
        return False
    numbers = coordinates(thing)
    return all([worth_of_shares(numbers, filled_shares(board))[0] >= 0 for board in boards])


def boards_holds(boards, thing):
    """Whether any value is a paper that boards decide, or that a wish misleads them."""
    if not are_boards(boards):
        return False
    if is_paper(thing, "decide", 2):
        return do_numbers_decide(boards, thing[1])
    return is_paper(thing, "misled", 2) and does_mislead(boards, thing[1])
