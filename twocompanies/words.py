"""Words of meetings, plain words, and the boards that tell a single coordinate."""

from twocompanies.boards import Board
from twocompanies.errors import BadWord, TooMany
from twocompanies.pairings import is_pairing, joined, need_pairing, need_size, pairings, rim_of_column, straight_pairing
from twocompanies.values import is_place


def is_word(size, thing):
    """Whether any value is a word of this size."""
    return isinstance(thing, tuple) and all([is_place(size - 1, meeting) for meeting in thing])


def need_word(size, word):
    """Raises BadSize, then BadWord, for what is not as described."""
    need_size(size)
    if not isinstance(word, tuple):
        raise BadWord(-1)
    for number, meeting in enumerate(word):
        if not is_place(size - 1, meeting):
            raise BadWord(number)


def meeting_pairing(size, meeting):
    """The pairing of a meeting."""
    heights = (meeting, meeting + 1)
    columns = (rim_of_column(size, meeting + 1), rim_of_column(size, meeting))
    others = [pair for pair in straight_pairing(size) if pair[0] not in heights]
    return tuple(sorted(others + [heights, columns]))


def pairing_made(size, word):
    """The pairing that a word makes, and how many rings arise."""
    need_word(size, word)
    pairing = straight_pairing(size)
    rings = 0
    for meeting in word:
        pairing, more = joined(pairing, meeting_pairing(size, meeting))
        rings += more
    return (pairing, rings)


def is_plain(size, word):
    """Whether both neighbours of each meeting stand between any two of it that follow one another."""
    need_word(size, word)
    last = {}
    for at, meeting in enumerate(word):
        if meeting in last:
            between = word[last[meeting] + 1:at]
            if meeting - 1 not in between or meeting + 1 not in between:
                return False
        last[meeting] = at
    return True


def is_upper(size, height, place):
    """Whether a rim place is a row or a column of this height or above it."""
    return place <= height or place >= rim_of_column(size, height)


def count_meetings(pairing):
    """How many meetings the plain words of a pairing have.

    Two pairs lead across the line between the heights k and k + 1 at each meeting k, and in a plain word none
    of them leads back. So it is enough to count the pairs of places on different sides of these lines.
    """
    size = len(pairing)
    crossed = 0
    for height in range(size - 1):
        crossed += len([a for a, b in pairing if is_upper(size, height, a) != is_upper(size, height, b)])
    return crossed // 2


def first_meetings(pairing):
    """The ascending list of the meetings with which a plain word of a pairing can begin."""
    return [a for a, b in pairing if b == a + 1 and b < len(pairing)]


def after_meeting(pairing, meeting):
    """The pairing that the rest of a plain word makes, if it begins with this meeting.

    There some pair a, b is led by way of the rows of the meeting: from a to one of them, from the other one to b.
    All such pairings lead back to the whole pairing, and the one with the fewest meetings is the rest.
    """
    others = [pair for pair in pairing if pair[0] != meeting]
    found = []
    for pair in others:
        kept = [own for own in others if own != pair]
        for near, far in (pair, pair[::-1]):
            led = [tuple(sorted([near, meeting])), tuple(sorted([far, meeting + 1]))]
            found.append(tuple(sorted(kept + led)))
    return min([rest for rest in found if is_pairing(len(pairing), rest)], key=count_meetings)


def first_word(pairing):
    """The first of the plain words that make a pairing."""
    need_pairing(pairing)
    word = []
    rest = pairing
    for _ in range(count_meetings(pairing)):
        word.append(first_meetings(rest)[0])
        rest = after_meeting(rest, word[-1])
    return tuple(word)


def list_plain_words(pairing):
    """The list of all plain words that make a pairing, in order."""
    found = []
    for meeting in first_meetings(pairing):
        found.extend([(meeting,) + rest for rest in list_plain_words(after_meeting(pairing, meeting))])
    return found if found != [] else [()]


def plain_words(pairing, *, most=1000):
    """The tuple of all plain words that make a pairing, in order."""
    need_pairing(pairing)
    found = list_plain_words(pairing)
    if len(found) > most:
        raise TooMany(most)
    return tuple(found)


def word_length(pairing):
    """How many meetings the plain words of a pairing have."""
    need_pairing(pairing)
    return count_meetings(pairing)


def board_of_word(size, word):
    """The board of the meetings of a word."""
    need_word(size, word)
    return Board(size, tuple([("meet", meeting) for meeting in word]))


def told_board(pairing):
    """The board of the first word of a pairing."""
    word = first_word(pairing)
    return board_of_word(len(pairing), word)


def told_boards(size):
    """The tuple of the told boards of all pairings, in the order of the pairings."""
    return tuple([told_board(pairing) for pairing in pairings(size)])
