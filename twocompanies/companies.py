"""Companies and tangles, and the exchange of tails."""

from twocompanies.checks import need_sets
from twocompanies.courses import count_courses
from twocompanies.errors import BadTangle, TooMany
from twocompanies.mingled import count_pairs, count_tangles, is_tangle, list_tangles
from twocompanies.values import are_same, are_sets
from twocompanies.walkers import apart_steps, list_apart, ways_of_course
from twocompanies.ways import touches


def tangles(board, rows, columns, *, most=2000):
    """The tuple of all tangles from the rows to the columns, in order."""
    need_sets(board.size, rows, columns)
    pairs = count_pairs(board, rows, columns)
    known = {}
    if count_tangles(pairs, rows, columns, known) > most:
        raise TooMany(most)
    return tuple(list_tangles(board, pairs, rows, columns, known))


def companies(board, rows, columns, *, most=2000):
    """The tuple of all companies from the rows to the columns, in order."""
    need_sets(board.size, rows, columns)
    counts = count_courses(board, rows, columns, apart_steps)
    if counts[0].get(rows, 0) > most:
        raise TooMany(most)
    found = [ways_of_course(course, len(rows)) for course in list_apart(board, rows, counts)]
    return tuple(sorted(found))


def is_company(board, rows, columns, thing):
    """Whether any value is a company from the rows to the columns."""
    if not are_sets(board.size, rows, columns) or not is_tangle(board, rows, columns, thing):
        return False
    return touches(board, thing) == ()


def need_tangle(board, rows, columns, tangle):
    """Raises BadSets, then BadTangle, for what is not as described."""
    need_sets(board.size, rows, columns)
    if not is_tangle(board, rows, columns, tangle):
        raise BadTangle(tangle)


def sign_of(board, rows, columns, tangle):
    """1 if an even number of pairs of ways end in the opposite order, otherwise -1."""
    need_tangle(board, rows, columns, tangle)
    ends = [way[-1] for way in tangle]
    crossed = [at for at in range(len(ends)) for end in ends[:at] if end > ends[at]]
    return 1 if len(crossed) % 2 == 0 else -1


def first_touch(board, rows, columns, tangle):
    """The least touch of a tangle, None for a company."""
    need_tangle(board, rows, columns, tangle)
    found = touches(board, tangle)
    return found[0] if found != () else None


def takes_part(way, touch):
    """Whether a way takes part in a touch."""
    moment, kind, height = touch
    return way[moment] == height or (kind == 1 and way[moment] == height + 1)


def exchanged(board, rows, columns, tangle):
    """The tangle with tails exchanged, None for a company."""
    touch = first_touch(board, rows, columns, tangle)
    if touch is None:
        return None
    part = [at for at, way in enumerate(tangle) if takes_part(way, touch)]
    one, other = part[0], part[1]
    after = touch[0] + 1
    changed = list(tangle)
    changed[one] = tangle[one][:after] + tangle[other][after:]
    changed[other] = tangle[other][:after] + tangle[one][after:]
    return tuple(changed)


def judge_tangle(board, rows, columns, tangle):
    """The paper that a tangle is a company, or that it cancels out with another one."""
    other = exchanged(board, rows, columns, tangle)
    if other is None:
        return ("company",)
    return ("cancels", other)


def tangle_holds(board, rows, columns, tangle, thing):
    """Whether any value is the paper of a tangle."""
    return are_same(judge_tangle(board, rows, columns, tangle), thing)
