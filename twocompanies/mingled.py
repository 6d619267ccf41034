"""Tangles: ways from rows to columns, one from each row and one to each column."""

from twocompanies.ways import count_ways, is_way, list_ways


def without(columns, column):
    """The columns but this one."""
    return tuple([other for other in columns if other != column])


def count_pairs(board, rows, columns):
    """A dict from each pair of a row and a column to how many ways lead from one to the other."""
    return {(row, column): count_ways(board, row, column) for row in rows for column in columns}


def count_tangles(pairs, rows, columns, known):
    """How many tangles lead from the rows to the columns; known keeps what was counted before."""
    if rows == ():
        return 1
    if columns not in known:
        many = 0
        for column in columns:
            if pairs[(rows[0], column)] > 0:
                many += pairs[(rows[0], column)] * count_tangles(pairs, rows[1:], without(columns, column), known)
        known[columns] = many
    return known[columns]


def first_ways(board, pairs, rows, columns, known):
    """The ascending list of the ways from the first row with which a tangle can begin."""
    found = []
    for column in columns:
        if count_tangles(pairs, rows[1:], without(columns, column), known) > 0:
            found.extend(list_ways(board, rows[0], column))
    return sorted(found)


def list_tangles(board, pairs, rows, columns, known):
    """The list of all tangles from the rows to the columns, in order."""
    if rows == ():
        return [()]
    found = []
    tails = {}
    for way in first_ways(board, pairs, rows, columns, known):
        rest = without(columns, way[-1])
        if rest not in tails:
            tails[rest] = list_tangles(board, pairs, rows[1:], rest, known)
        found.extend([(way,) + tail for tail in tails[rest]])
    return found


def is_tangle(board, rows, columns, thing):
    """Whether any value is a tangle from the rows to the columns."""
    if not isinstance(thing, tuple) or not all([is_way(board, way) for way in thing]):
        return False
    return tuple([way[0] for way in thing]) == rows and tuple(sorted([way[-1] for way in thing])) == columns
