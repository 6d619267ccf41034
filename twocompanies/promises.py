"""Promises about the boards and wishes of a house, and their texts."""

from twocompanies.errors import BadText
from twocompanies.numerals import number_read, number_text, reduced
from twocompanies.pairings import is_pairing, pairing_read, pairing_text
from twocompanies.papers import bound_kept, is_bound
from twocompanies.stock import is_among, is_name
from twocompanies.values import is_number, kind_of

LENGTHS = {"never": 2, "alike": 3, "at least": 4, "between": 5, "draws": 3}
WISH_PLACES = {"never": (1,), "alike": (1, 2), "at least": (1, 3), "between": (1,), "draws": ()}
BOARD_PLACES = {"never": (), "alike": (), "at least": (), "between": (2,), "draws": (1,)}
FIRST_WORDS = {"never": "never", "alike": "alike", "at least": "atleast", "between": "between", "draws": "draws"}


def are_pairings(size, thing):
    """Whether any value is an ascending tuple of pairings of this size."""
    if not isinstance(thing, tuple) or not all([is_pairing(size, pairing) for pairing in thing]):
        return False
    return are_ascending(thing)


def are_ascending(some):
    """Whether each of some tuples is greater than the one before it."""
    return all([some[at - 1] < some[at] for at in range(1, len(some))])


def are_items_right(size, promise):
    """Whether what a tuple of the kind and length of a promise has beside names is as it must be."""
    if promise[0] == "at least":
        return is_number(promise[2])
    if promise[0] == "between":
        return is_bound(promise[3]) and is_bound(promise[4])
    return promise[0] != "draws" or are_pairings(size, promise[2])


def is_promise(stock, thing):
    """Whether any value is a promise whose names stand for what is asked."""
    kind = kind_of(thing)
    if kind is None or LENGTHS.get(kind) != len(thing):
        return False
    if not all([is_among(stock.wishes, thing[at]) for at in WISH_PLACES[kind]]):
        return False
    if not all([is_among(stock.boards, thing[at]) for at in BOARD_PLACES[kind]]):
        return False
    return are_items_right(stock.size, thing)


def promise_kept(promise):
    """A promise with its numbers without common divisors."""
    if promise[0] == "at least":
        return promise[:2] + (reduced(promise[2]), promise[3])
    if promise[0] == "between":
        return promise[:3] + (bound_kept(promise[3]), bound_kept(promise[4]))
    return promise


def is_given(stock, thing):
    """Whether any value is a promise that is given."""
    return is_promise(stock, thing) and promise_kept(thing) in stock.pledges


def name_places(promise):
    """The places of the names in a promise."""
    return WISH_PLACES[promise[0]] + BOARD_PLACES[promise[0]]


def has_name(promise, name):
    """Whether a promise has this name."""
    return name in [promise[at] for at in name_places(promise)]


def renamed(promise, name, other):
    """A promise with the other name in the place of a name."""
    places = [at for at in name_places(promise) if promise[at] == name]
    return tuple([other if at in places else item for at, item in enumerate(promise)])


def bound_text(bound):
    """The text of a bound."""
    return "*" if bound is None else number_text(bound)


def promise_text(promise):
    """The line of a promise that is kept."""
    words = [FIRST_WORDS[promise[0]]] + list(promise[1:])
    if promise[0] == "at least":
        words[2] = number_text(promise[2])
    elif promise[0] == "between":
        words[3:] = [bound_text(bound) for bound in promise[3:]]
    elif promise[0] == "draws":
        words[2:] = ["-"] if promise[2] == () else [pairing_text(pairing) for pairing in promise[2]]
    return " ".join(words)


def pairings_read(words):
    """The ascending tuple of the pairings of which these are the texts, None for other words."""
    if words == ["-"]:
        return ()
    found = []
    for word in words:
        try:
            found.append(pairing_read(word))
        except BadText:
            return None
    return tuple(found) if found != [] and are_ascending(found) else None


def draws_read(words):
    """The promise of the words of a line that begins with the word draws, None for other ones."""
    found = pairings_read(words[2:])
    return None if found is None else ("draws", words[1], found)


def at_least_read(words):
    """The promise of the four words of a line that begins with the word atleast, None for other ones."""
    number = number_read(words[2])
    return None if number is None else ("at least", words[1], number, words[3])


def between_read(words):
    """The promise of the five words of a line that begins with the word between, None for other ones."""
    bounds = [None if word == "*" else number_read(word) for word in words[3:]]
    if not all([word == "*" or bound is not None for word, bound in zip(words[3:], bounds)]):
        return None
    return ("between", words[1], words[2], bounds[0], bounds[1])


def items_read(kind, words):
    """The promise of this kind of the words of a line, whatever its names are; None for other words."""
    if kind == "draws":
        return draws_read(words)
    if len(words) != LENGTHS[kind]:
        return None
    if kind == "at least":
        return at_least_read(words)
    return between_read(words) if kind == "between" else tuple(words)


def promise_read(words):
    """The promise of a line, given by its words, whatever its names stand for; None for other words."""
    for kind, word in FIRST_WORDS.items():
        if words != [] and words[0] == word:
            promise = items_read(kind, words)
            if promise is not None and all([is_name(promise[at]) for at in name_places(promise)]):
                return promise
    return None
