"""Ways of boards, and where they touch."""

from twocompanies.errors import BadPlace, BadTangle, TooMany
from twocompanies.terms import term_of
from twocompanies.values import is_place


def next_heights(piece, height):
    """The ascending tuple of the heights to which a piece leads from a height."""
    k = piece[1]
    if piece[0] == "down" and height == k:
        return (k, k + 1)
    if piece[0] == "up" and height == k + 1:
        return (k, k + 1)
    if piece[0] == "meet" and height in (k, k + 1):
        return (k, k + 1)
    return (height,)


def step_weight(piece, height, after):
    """The weight that a way passes at a piece."""
    if piece[0] in ("down", "up") and height != after:
        return piece[2]
    if piece[0] == "pass" and height == piece[1]:
        return piece[2]
    return (1, 1)


def count_on(piece, later, height):
    """How many ways lead on from a height ahead of a piece, if later tells it for behind the piece."""
    return sum([later[after] for after in next_heights(piece, height)])


def counts_to(board, column):
    """For each moment the list that tells how many ways lead from each height to the column."""
    later = [1 if height == column else 0 for height in range(board.size)]
    counts = [later]
    for piece in board.pieces[::-1]:
        later = [count_on(piece, later, height) for height in range(board.size)]
        counts.append(later)
    return counts[::-1]


def count_ways(board, row, column):
    """How many ways lead from the row to the column."""
    return counts_to(board, column)[0][row]


def list_ways(board, row, column):
    """The list of all ways, in order; no beginning is tried that does not lead to the column."""
    counts = counts_to(board, column)
    found = [(row,)] if counts[0][row] > 0 else []
    for number, piece in enumerate(board.pieces):
        later = counts[number + 1]
        longer = []
        for way in found:
            for after in next_heights(piece, way[-1]):
                if later[after] > 0:
                    longer.append(way + (after,))
        found = longer
    return found


def ways(board, row, column, *, most=2000):
    """The tuple of all ways from the row to the column, in order."""
    for place in (row, column):
        if not is_place(board.size, place):
            raise BadPlace(place)
    if count_ways(board, row, column) > most:
        raise TooMany(most)
    return tuple(list_ways(board, row, column))


def is_way(board, thing):
    """Whether any value is a way of the board."""
    if not isinstance(thing, tuple) or len(thing) != len(board.pieces) + 1:
        return False
    if not all([is_place(board.size, height) for height in thing]):
        return False
    steps = [thing[number + 1] in next_heights(piece, thing[number]) for number, piece in enumerate(board.pieces)]
    return all(steps)


def way_weight(board, way):
    """The term of a way, None if it is zero."""
    if not is_way(board, way):
        raise BadTangle(way)
    weights = [step_weight(piece, way[number], way[number + 1]) for number, piece in enumerate(board.pieces)]
    return term_of(weights)


def touches_at_moment(board, some, moment):
    """The touches of ways at a moment and at the piece that follows it, ascending."""
    here = [way[moment] for way in some]
    found = [(moment, 0, height) for height in range(board.size) if here.count(height) >= 2]
    if moment < len(board.pieces) and board.pieces[moment][0] == "meet":
        k = board.pieces[moment][1]
        if here.count(k) + here.count(k + 1) >= 2:
            found.append((moment, 1, k))
    return found


def touches(board, some):
    """The ascending tuple of the touches of two or more of some ways."""
    if not isinstance(some, tuple) or not all([is_way(board, way) for way in some]):
        raise BadTangle(some)
    found = []
    for moment in range(len(board.pieces) + 1):
        found.extend(touches_at_moment(board, some, moment))
    return tuple(found)
