"""Covers: two companies that together take all rows and all columns of a board."""

from twocompanies.courses import count_courses
from twocompanies.errors import BadCover, TooMany
from twocompanies.roads import drawing
from twocompanies.terms import term_of
from twocompanies.values import is_place

MOST_LOAD = 2


def loads_behind(piece, here, many):
    """The loads behind a piece with the integer of a cover, from 0 to 2; None if it cannot be."""
    kind, k = piece[0], piece[1]
    if kind == "pass":
        return here if many == 0 else None
    both = here[k] + here[k + 1]
    if kind == "down":
        upper = here[k] - many
    elif kind == "up":
        upper = here[k] + many
    else:
        upper = many
    lower = both - upper
    if not 0 <= upper <= MOST_LOAD or not 0 <= lower <= MOST_LOAD or (kind == "meet" and both > MOST_LOAD):
        return None
    return here[:k] + (upper, lower) + here[k + 2:]


def cover_steps(piece, here):
    """The list of the pairs (loads behind a piece, its integer) that can follow on the loads before it."""
    found = [(loads_behind(piece, here, many), many) for many in range(MOST_LOAD + 1)]
    return [(after, many) for after, many in found if after is not None]


def single_loads(board):
    """The loads that are all 1."""
    return (1,) * board.size


def course_of(board, thing):
    """The list of the loads at all moments, None for any value that is not a cover."""
    if not isinstance(thing, tuple) or len(thing) != len(board.pieces):
        return None
    course = [single_loads(board)]
    for number, piece in enumerate(board.pieces):
        if not is_place(MOST_LOAD + 1, thing[number]):
            return None
        after = loads_behind(piece, course[-1], thing[number])
        if after is None:
            return None
        course.append(after)
    return course if course[-1] == single_loads(board) else None


def is_cover(board, thing):
    """Whether any value is a cover of the board."""
    return course_of(board, thing) is not None


def covers(board, *, most=3000):
    """The tuple of all covers of the board, in order."""
    start = single_loads(board)
    counts = count_courses(board, start, start, cover_steps)
    if counts[0][start] > most:
        raise TooMany(most)
    found = [((), start)]
    for number, piece in enumerate(board.pieces):
        longer = []
        for cover, here in found:
            for after, many in cover_steps(piece, here):
                if after in counts[number + 1]:
                    longer.append((cover + (many,), after))
        found = longer
    return tuple([cover for cover, here in found])


def course_needed(board, cover):
    """The list of the loads of a cover at all moments; raises BadCover for what is no cover."""
    course = course_of(board, cover)
    if course is None:
        raise BadCover(cover)
    return course


def loads(board, cover):
    """The tuple of the loads of a cover at all moments."""
    return tuple(course_needed(board, cover))


def cover_weight(board, cover):
    """The term of a cover, None if it is zero."""
    course = course_needed(board, cover)
    weights = []
    for number, piece in enumerate(board.pieces):
        if piece[0] == "pass":
            weights.extend([piece[2]] * course[number][piece[1]])
        elif piece[0] != "meet":
            weights.extend([piece[2]] * cover[number])
    return term_of(weights)


def cover_drawing(board, cover):
    """The pair of the pairing of a cover and how many rings it has."""
    return drawing(board, course_needed(board, cover))
