"""Factors: by which numbers another wish can be multiplied, so that one wish stays at or above it."""

from twocompanies.checks import need_one_size
from twocompanies.coordinates import coordinates
from twocompanies.ever import is_ever_at_least
from twocompanies.numerals import is_less, number_over
from twocompanies.pairings import pairings
from twocompanies.papers import bound_kept, is_bound, is_filled_board, is_paper
from twocompanies.wishes import filled_worth, wish_times
from twocompanies.words import told_board


class Stretch:
    """The numbers from the greatest lower bound to the least upper one, as far as they are known.

    Each bound is kept with its pairing, None stands for no bound. A pairing that leaves no number at all is kept, too.
    """

    def __init__(self):
        self.low = None
        self.low_pairing = None
        self.high = None
        self.high_pairing = None
        self.barring = None

    def bar(self, pairing):
        """No number is left, because of this pairing."""
        if self.barring is None:
            self.barring = pairing

    def bound_below(self, number, pairing):
        """All numbers are at least this one, because of this pairing."""
        if self.low is None or is_less(self.low, number):
            self.low = number
            self.low_pairing = pairing

    def bound_above(self, number, pairing):
        """All numbers are at most this one, because of this pairing."""
        if self.high is None or is_less(number, self.high):
            self.high = number
            self.high_pairing = pairing


def stretch_of(one, other):
    """The stretch of the factors of two wishes."""
    need_one_size(one, other)
    stretch = Stretch()
    for pairing, own, another in zip(pairings(one.size), coordinates(one), coordinates(other)):
        if another[0] > 0:
            stretch.bound_above(number_over(own, another), pairing)
        elif another[0] < 0:
            stretch.bound_below(number_over(own, another), pairing)
        elif own[0] < 0:
            stretch.bar(pairing)
    return stretch


def judge_factors(one, other):
    """The paper of the factors of two wishes: the stretch of them, or boards that show that there are none."""
    stretch = stretch_of(one, other)
    if stretch.barring is not None:
        return ("none", (told_board(stretch.barring),))
    if stretch.low is not None and stretch.high is not None and is_less(stretch.high, stretch.low):
        return ("none", (told_board(stretch.high_pairing), told_board(stretch.low_pairing)))
    return ("stretch", stretch.low, stretch.high)


def does_bar(one, other, board):
    """Whether this board alone shows that two wishes have no factor."""
    return filled_worth(other, board)[0] == 0 and filled_worth(one, board)[0] < 0


def do_bar(one, other, first, second):
    """Whether these two boards show that two wishes have no factor: at most one number, and at least a greater one."""
    above, below = filled_worth(other, first), filled_worth(other, second)
    if above[0] <= 0 or below[0] >= 0:
        return False
    return is_less(number_over(filled_worth(one, first), above), number_over(filled_worth(one, second), below))


def are_barring(one, other, thing):
    """Whether any value is a tuple of one or two filled boards that show that two wishes have no factor."""
    if not isinstance(thing, tuple) or not all([is_filled_board(one.size, board) for board in thing]):
        return False
    if len(thing) == 1:
        return does_bar(one, other, thing[0])
    return len(thing) == 2 and do_bar(one, other, thing[0], thing[1])


def factors_holds(one, other, thing):
    """Whether any value is a paper of the factors of two wishes."""
    need_one_size(one, other)
    if is_paper(thing, "stretch", 3) and is_bound(thing[1]) and is_bound(thing[2]):
        return judge_factors(one, other) == ("stretch", bound_kept(thing[1]), bound_kept(thing[2]))
    return is_paper(thing, "none", 2) and are_barring(one, other, thing[1])


def is_factor(one, other, number):
    """Whether the first wish minus this number times the second one is never below zero."""
    need_one_size(one, other)
    return is_ever_at_least(one, wish_times(number, other))


def least_factor(one, other):
    """The least factor of two wishes, None if there is none."""
    paper = judge_factors(one, other)
    return paper[1] if paper[0] == "stretch" else None


def greatest_factor(one, other):
    """The greatest factor of two wishes, None if there is none."""
    paper = judge_factors(one, other)
    return paper[2] if paper[0] == "stretch" else None
