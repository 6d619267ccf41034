"""Which values are integers, numbers, letters, places and sets."""

from math import gcd

ALPHABET = "abcdefghijklmnopqrstuvwxyz"
LONGEST_LETTER = 8


def is_integer(thing):
    """Whether any value is an integer; a bool is none."""
    return isinstance(thing, int) and not isinstance(thing, bool)


def is_size(thing, greatest):
    """Whether any value is an integer from 1 to the greatest size."""
    return is_integer(thing) and 1 <= thing <= greatest


def is_place(size, thing):
    """Whether any value is an integer from 0 to size - 1."""
    return is_integer(thing) and 0 <= thing < size


def is_set(size, thing):
    """Whether any value is an ascending tuple of places."""
    if not isinstance(thing, tuple):
        return False
    before = -1
    for place in thing:
        if not is_place(size, place) or place <= before:
            return False
        before = place
    return True


def are_sets(size, rows, columns):
    """Whether any two values are two sets with equally many places."""
    return is_set(size, rows) and is_set(size, columns) and len(rows) == len(columns)


def is_pair(thing):
    """Whether any value is a tuple of two items."""
    return isinstance(thing, tuple) and len(thing) == 2


def is_number(thing):
    """Whether any value is a number, with any common divisor."""
    return is_pair(thing) and is_integer(thing[0]) and is_integer(thing[1]) and thing[1] >= 1


def is_lowest_number(thing):
    """Whether any value is a number without a common divisor."""
    return is_number(thing) and gcd(thing[0], thing[1]) == 1


def is_lowercase(thing, longest):
    """Whether any value is a string of letters from a to z, of one to so many of them."""
    if not isinstance(thing, str) or not 1 <= len(thing) <= longest:
        return False
    return all([sign in ALPHABET for sign in thing])


def is_letter(thing):
    """Whether any value is a string of one to eight letters from a to z."""
    return is_lowercase(thing, LONGEST_LETTER)


def kind_of(thing):
    """The string with which any value begins that is a tuple, None for any other value."""
    if not isinstance(thing, tuple) or thing == () or not isinstance(thing[0], str):
        return None
    return thing[0]


def are_same(one, other):
    """Whether a value of tuples, strings and integers is, kind by kind, any other value.

    Python's own comparison does not tell a bool from an integer.
    """
    if isinstance(one, tuple):
        if not isinstance(other, tuple) or len(one) != len(other):
            return False
        return all([are_same(one[at], other[at]) for at in range(len(one))])
    if isinstance(one, str):
        return isinstance(other, str) and one == other
    return is_integer(other) and one == other


def sets_of(size, many):
    """The sets of so many places, in order."""
    found = [()]
    for _ in range(many):
        found = [some + (place,) for some in found for place in range(size) if some == () or place > some[-1]]
    return found


def other_places(size, some):
    """The ascending tuple of the places that are not among some places."""
    return tuple([place for place in range(size) if place not in some])
