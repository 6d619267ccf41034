"""Fillings: numbers that stand in the place of letters."""

from twocompanies.numerals import reduced
from twocompanies.values import is_letter, is_number, is_pair


def is_filling(thing):
    """Whether any value is a tuple of pairs of ascending letters and any numbers."""
    if not isinstance(thing, tuple):
        return False
    before = ""
    for pair in thing:
        if not is_pair(pair) or not is_letter(pair[0]) or not is_number(pair[1]):
            return False
        if pair[0] <= before:
            return False
        before = pair[0]
    return True


def is_filling_from_zero(thing):
    """Whether any value is a filling whose numbers are at least zero."""
    return is_filling(thing) and all([pair[1][0] >= 0 for pair in thing])


def filling_numbers(filling):
    """A dict from the letters of a filling to their numbers."""
    return {pair[0]: reduced(pair[1]) for pair in filling}
