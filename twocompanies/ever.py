"""What holds on every board: wishes that are never below zero, and wishes that are alike."""

from twocompanies.checks import need_one_size
from twocompanies.coordinates import coordinates, masses
from twocompanies.pairings import pairings
from twocompanies.papers import is_filled_board, is_paper, masses_read
from twocompanies.wishes import filled_worth, wish_minus
from twocompanies.words import count_meetings, told_board


def pairings_below(wish):
    """The list of the pairings, in order, in which the coordinate of a wish is below zero."""
    return [pairing for pairing, number in masses(wish) if number[0] < 0]


def is_never_below(wish):
    """Whether the worth of a wish is at least zero at each filled board."""
    return pairings_below(wish) == []


def first_below(wish):
    """The first pairing in which the coordinate of a wish is below zero, None if there is none."""
    found = pairings_below(wish)
    return found[0] if found != [] else None


def least_below(wish):
    """A told board with the fewest pieces at which a wish is below zero, None if there is none."""
    found = pairings_below(wish)
    # Of several pairings with equally many meetings min takes the first one.
    return told_board(min(found, key=count_meetings)) if found != [] else None


def judge_never(wish):
    """The paper that a wish is never below zero, or that it is at some board."""
    board = least_below(wish)
    return ("never", masses(wish)) if board is None else ("below", board)


def never_holds(wish, thing):
    """Whether any value is a paper that a wish is never below zero, or that it is at some board."""
    if is_paper(thing, "never", 2):
        return is_never_below(wish) and masses_read(wish.size, thing[1]) == masses(wish)
    if not is_paper(thing, "below", 2) or not is_filled_board(wish.size, thing[1]):
        return False
    return filled_worth(wish, thing[1])[0] < 0


def are_alike(one, other):
    """Whether the worths of two wishes are equal at each filled board."""
    need_one_size(one, other)
    return coordinates(one) == coordinates(other)


def first_parting(one, other):
    """The told board of the first pairing in which two wishes have different coordinates, None if there is none."""
    need_one_size(one, other)
    for pairing, own, another in zip(pairings(one.size), coordinates(one), coordinates(other)):
        if own != another:
            return told_board(pairing)
    return None


def judge_alike(one, other):
    """The paper that two wishes are alike, or that some board parts them."""
    board = first_parting(one, other)
    return ("alike", masses(one)) if board is None else ("parted", board)


def alike_holds(one, other, thing):
    """Whether any value is a paper that two wishes are alike, or that some board parts them."""
    need_one_size(one, other)
    if is_paper(thing, "alike", 2):
        return are_alike(one, other) and masses_read(one.size, thing[1]) == masses(one)
    if not is_paper(thing, "parted", 2) or not is_filled_board(one.size, thing[1]):
        return False
    return filled_worth(one, thing[1]) != filled_worth(other, thing[1])


def is_ever_at_least(one, other):
    """Whether the first wish minus the second one is never below zero."""
    need_one_size(one, other)
    return is_never_below(wish_minus(one, other))
