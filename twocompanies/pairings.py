"""Pairings of the places on a rim, whose pairs do not cross."""

from twocompanies.errors import BadPairing, BadSize, BadText, OtherSizes
from twocompanies.values import is_pair, is_place, is_size

GREATEST_SIZE = 6


def pairs_of(text):
    """The pairing of a text of opening and closing signs, None for another text."""
    waiting = []
    pairs = []
    for place, sign in enumerate(text):
        if sign == "(":
            waiting.append(place)
        elif sign == ")" and waiting != []:
            pairs.append((waiting.pop(), place))
        else:
            return None
    return tuple(sorted(pairs)) if waiting == [] else None


def text_of(pairs):
    """The text of ordered pairs of as many rim places."""
    signs = ["?"] * (2 * len(pairs))
    for opening, closing in pairs:
        signs[opening] = "("
        signs[closing] = ")"
    return "".join(signs)


def is_rim_pair(places, thing):
    """Whether any value is a pair of two of so many rim places, the lesser one first."""
    return is_pair(thing) and is_place(places, thing[0]) and is_place(places, thing[1]) and thing[0] < thing[1]


def is_pairing(size, thing):
    """Whether any value is a pairing of this size."""
    if not isinstance(thing, tuple) or len(thing) != size:
        return False
    if not all([is_rim_pair(2 * size, pair) for pair in thing]):
        return False
    # A place that is left out keeps its mark, and pairs that cross are read back as others.
    return pairs_of(text_of(thing)) == thing


def need_size(size):
    """Raises BadSize for any value that is not a size of pairings."""
    if not is_size(size, GREATEST_SIZE):
        raise BadSize(size)


def need_pairing(thing):
    """Raises BadPairing for any value that is not a pairing."""
    if not isinstance(thing, tuple) or not is_size(len(thing), GREATEST_SIZE) or not is_pairing(len(thing), thing):
        raise BadPairing(thing)


def need_two_pairings(one, other):
    """Raises BadPairing for the first of two values that is not a pairing, then OtherSizes."""
    need_pairing(one)
    need_pairing(other)
    if len(one) != len(other):
        raise OtherSizes()


def texts_of_size(size):
    """The texts of all pairings of this size."""
    found = [("", 0)]
    for place in range(2 * size):
        left = 2 * size - place
        opened = [(text + "(", many + 1) for text, many in found if many < left]
        closed = [(text + ")", many - 1) for text, many in found if many > 0]
        found = opened + closed
    return [text for text, many in found]


def pairings(size):
    """The tuple of all pairings of this size, in order."""
    need_size(size)
    return tuple(sorted([pairs_of(text) for text in texts_of_size(size)]))


def straight_pairing(size):
    """The pairing of each row with its column."""
    need_size(size)
    return tuple([(row, rim_of_column(size, row)) for row in range(size)])


def size_of(pairing):
    """The size of a pairing."""
    need_pairing(pairing)
    return len(pairing)


def rim_of_row(size, row):
    """The rim place of a row."""
    return row


def rim_of_column(size, column):
    """The rim place of a column."""
    return 2 * size - 1 - column


def heights(pairing):
    """The tuple of the heights ahead of the rim places, and behind the last one."""
    need_pairing(pairing)
    found = [0]
    for sign in text_of(pairing):
        found.append(found[-1] + (1 if sign == "(" else -1))
    return tuple(found)


def is_above(one, other):
    """Whether one is at least as high as other ahead of each rim place."""
    need_two_pairings(one, other)
    lower = heights(other)
    return all([height >= lower[place] for place, height in enumerate(heights(one))])


def partners(pairing):
    """A dict from each rim place to the one that is paired with it."""
    found = {}
    for opening, closing in pairing:
        found[opening] = closing
        found[closing] = opening
    return found


def partner(pairing, place):
    """The rim place that is paired with a rim place."""
    need_pairing(pairing)
    return partners(pairing)[place]


def through(pairing):
    """The ascending tuple of the pairs of a row and a column that are paired with one another."""
    need_pairing(pairing)
    size = len(pairing)
    return tuple([(a, 2 * size - 1 - b) for a, b in pairing if a < size <= b])


def pairing_text(pairing):
    """The text of a pairing."""
    need_pairing(pairing)
    return text_of(pairing)


def pairing_read(text):
    """The pairing of a text."""
    if not isinstance(text, str) or not 2 <= len(text) <= 2 * GREATEST_SIZE:
        raise BadText(0)
    pairing = pairs_of(text)
    if pairing is None:
        raise BadText(0)
    return pairing


def road(mates, size, start):
    """The list of the places of a road: until it ends at no glued place, or would come back to its start.

    The places of two pairings glued together are numbered as on two rims, one after the other.
    So place p of the columns of the first one is glued to place 4 * size - 1 - p.
    """
    found = [start, mates[start]]
    glued = 4 * size - 1 - found[-1]
    while size <= glued < 3 * size and glued != start:
        found.extend([glued, mates[glued]])
        glued = 4 * size - 1 - found[-1]
    return found


def outer_place(size, place):
    """The rim place of the whole that an end of a road is."""
    return place if place < size else place - 2 * size


def joined(one, other):
    """The pairing of two pairings glued together, and how many rings arise."""
    need_two_pairings(one, other)
    size = len(one)
    mates = partners(one + tuple([(a + 2 * size, b + 2 * size) for a, b in other]))
    seen = {}
    pairs = []
    rings = 0
    for start in list(range(size)) + list(range(3 * size, 4 * size)) + list(range(size, 3 * size)):
        if start not in seen:
            places = road(mates, size, start)
            for place in places:
                seen[place] = True
            if size <= start < 3 * size:
                rings += 1
            else:
                pairs.append((outer_place(size, start), outer_place(size, places[-1])))
    return (tuple(pairs), rings)


def exchanged_places(pairing, places):
    """The pairing with these rim places in the place of its own ones."""
    pairs = [tuple(sorted([places[a], places[b]])) for a, b in pairing]
    return tuple(sorted(pairs))


def pairing_backwards(pairing):
    """The pairing with rows and columns exchanged."""
    need_pairing(pairing)
    return exchanged_places(pairing, list(range(2 * len(pairing)))[::-1])


def pairing_upside_down(pairing):
    """The pairing with rows and columns counted from the bottom up."""
    need_pairing(pairing)
    places = list(range(2 * len(pairing)))
    return exchanged_places(pairing, places[:len(pairing)][::-1] + places[len(pairing):][::-1])


def pairing_below(one, other):
    """The pairing other below one."""
    need_pairing(one)
    need_pairing(other)
    size = len(one) + len(other)
    if size > GREATEST_SIZE:
        raise BadSize(size)
    # All of the lower pairing stands on the rim between the rows and the columns of the upper one.
    upper = [(wide(a, len(one), len(other)), wide(b, len(one), len(other))) for a, b in one]
    lower = [(a + len(one), b + len(one)) for a, b in other]
    return tuple(sorted(upper + lower))


def wide(place, size, more):
    """A rim place of a pairing below which another one of size more is put."""
    return place if place < size else place + 2 * more
