"""Walkers who do not meet, as the ascending tuples of their heights at each moment.

Walkers who stay apart keep their order, so these tuples tell all of their ways.
"""


def moved(piece, heights, height, after):
    """The one step in which the walker at a height goes to another one, none if that one is taken."""
    if after in heights:
        return []
    moves = tuple([after if other == height else other for other in heights])
    return [(moves, (1, 1) if piece[0] == "meet" else piece[2])]


def apart_steps(piece, heights):
    """The list of pairs (heights behind a piece, weight passed there) in which no walkers touch."""
    kind, k = piece[0], piece[1]
    if kind == "pass":
        return [(heights, piece[2] if k in heights else (1, 1))]
    stay = [(heights, (1, 1))]
    if kind == "down":
        return stay + (moved(piece, heights, k, k + 1) if k in heights else [])
    if kind == "up":
        return stay + (moved(piece, heights, k + 1, k) if k + 1 in heights else [])
    if k in heights and k + 1 in heights:
        return []
    if k in heights:
        return stay + moved(piece, heights, k, k + 1)
    if k + 1 in heights:
        return stay + moved(piece, heights, k + 1, k)
    return stay


def list_apart(board, rows, counts):
    """The list of all courses of companies, each a tuple of heights for each moment."""
    found = [(rows,)] if rows in counts[0] else []
    for number, piece in enumerate(board.pieces):
        later = counts[number + 1]
        longer = []
        for course in found:
            for after, weight in apart_steps(piece, course[-1]):
                if after in later:
                    longer.append(course + (after,))
        found = longer
    return found


def ways_of_course(course, many):
    """The ways of so many walkers whose heights are given moment by moment."""
    return tuple([tuple([heights[at] for heights in course]) for at in range(many)])
