"""Boards, wishes, pairings and what papers consist of, turned upside down if upside is True, otherwise backwards."""

from twocompanies.drawing import backwards, upside_down
from twocompanies.numerals import reduced
from twocompanies.pairings import pairing_backwards, pairing_upside_down, pairings
from twocompanies.papers import bound_kept
from twocompanies.wishes import wish_backwards, wish_upside_down

WITH_MASSES = ("never", "alike", "uncovered")
WITH_BOARD = ("below", "parted")


def turned_board(board, upside):
    """A board turned."""
    return upside_down(board) if upside else backwards(board)


def turned_boards(boards, upside):
    """A tuple of boards, all of them turned."""
    return tuple([turned_board(board, upside) for board in boards])


def turned_wish(wish, upside):
    """A wish turned."""
    return wish_upside_down(wish) if upside else wish_backwards(wish)


def turned_pairing(pairing, upside):
    """A pairing turned."""
    return pairing_upside_down(pairing) if upside else pairing_backwards(pairing)


def turned_offers(offers, upside):
    """Offers with all wishes turned."""
    return tuple([(turned_wish(wish, upside), reduced(price)) for wish, price in offers])


def turned_masses(some, upside):
    """Pairs of a pairing and a number, with all pairings turned and sorted anew."""
    return tuple(sorted([(turned_pairing(pairing, upside), reduced(number)) for pairing, number in some]))


def turned_numbers(size, numbers, upside):
    """The numbers of boards for all pairings of this size, each of them for the turned pairing."""
    found = {turned_pairing(own, upside): number for own, number in zip(pairings(size), numbers)}
    return tuple([found[pairing] for pairing in pairings(size)])


def turned_least(amounts, price, weights, upside):
    """The paper of a least price, with its weights turned."""
    return ("least", tuple([reduced(amount) for amount in amounts]), reduced(price), turned_masses(weights, upside))


def turned_by_kind(paper, size, upside):
    """A paper of a question about wishes or boards of this size, turned."""
    kind = paper[0]
    if kind in WITH_MASSES:
        return (kind, turned_masses(paper[1], upside))
    if kind in WITH_BOARD:
        return (kind, turned_board(paper[1], upside))
    if kind == "stretch":
        return (kind, bound_kept(paper[1]), bound_kept(paper[2]))
    if kind == "none":
        return (kind, turned_boards(paper[1], upside))
    if kind == "least":
        return turned_least(paper[1], paper[2], paper[3], upside)
    if kind == "decide":
        return (kind, turned_numbers(size, paper[1], upside))
    return (kind, turned_wish(paper[1], upside))
