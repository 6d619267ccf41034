"""Commands that only ask a house, and the texts that answer them."""

from twocompanies.commands import need_names
from twocompanies.errors import InvalidCommand, NoName
from twocompanies.ever import judge_alike, judge_never
from twocompanies.factors import judge_factors
from twocompanies.numerals import number_text
from twocompanies.promises import bound_text
from twocompanies.sums import sum_text


def told_text(board):
    """The meetings of a told board."""
    meetings = [str(piece[1]) for piece in board.pieces]
    return " ".join(meetings) if meetings != [] else "straight"


def answer_names(house, words):
    """All names."""
    need_names(words, 0)
    names = house.names()
    return " ".join(names) if names != () else "-"


def answer_show(house, words):
    """The text of a board or a wish."""
    need_names(words, 1)
    try:
        return str(house.board(words[1]))
    except NoName:
        return str(house.wish(words[1]))


def answer_worth(house, words):
    """The worth of a wish at a board."""
    need_names(words, 2)
    return sum_text(house.worth(words[1], words[2]))


def answer_shares(house, words):
    """The shares of a board."""
    need_names(words, 1)
    return " ; ".join([sum_text(some) for some in house.shares(words[1])])


def answer_coordinates(house, words):
    """The coordinates of a wish."""
    need_names(words, 1)
    return " ".join([number_text(number) for number in house.coordinates(words[1])])


def answer_never(house, words):
    """Whether a wish is never below zero."""
    need_names(words, 1)
    paper = judge_never(house.wish(words[1]))
    return "never" if paper[0] == "never" else f"below {told_text(paper[1])}"


def answer_alike(house, words):
    """Whether two wishes are alike."""
    need_names(words, 2)
    paper = judge_alike(house.wish(words[1]), house.wish(words[2]))
    return "alike" if paper[0] == "alike" else f"parted {told_text(paper[1])}"


def answer_factors(house, words):
    """The factors of two wishes."""
    need_names(words, 2)
    paper = judge_factors(house.wish(words[1]), house.wish(words[2]))
    return "none" if paper[0] == "none" else f"stretch {bound_text(paper[1])} {bound_text(paper[2])}"


ANSWERS = {"names": answer_names, "show": answer_show, "worth": answer_worth, "shares": answer_shares,
           "coordinates": answer_coordinates, "never": answer_never, "alike": answer_alike, "factors": answer_factors}


def answer(house, words):
    """The answer to a command that only asks."""
    if words[0] not in ANSWERS:
        raise InvalidCommand()
    ask = ANSWERS[words[0]]
    return ask(house, words)
