"""Tables of sums and of numbers, and their minors."""

from twocompanies.checks import need_filled, need_sets
from twocompanies.errors import BadRows, OtherSizes
from twocompanies.numerals import reduced
from twocompanies.sums import ONE, is_sum, letter_sum, minus, number_sum, plus, times
from twocompanies.values import is_number, sets_of
from twocompanies.walkers import apart_steps

GREATEST_SIZE = 9


def weight_sum(weight):
    """The sum that a weight is."""
    return letter_sum(weight) if isinstance(weight, str) else number_sum(weight)


def row_behind(piece, row):
    """A row of the table of a board behind one more piece."""
    kind, k = piece[0], piece[1]
    changed = list(row)
    if kind == "down":
        changed[k + 1] = plus(row[k + 1], times(weight_sum(piece[2]), row[k]))
    elif kind == "up":
        changed[k] = plus(row[k], times(weight_sum(piece[2]), row[k + 1]))
    elif kind == "pass":
        changed[k] = times(weight_sum(piece[2]), row[k])
    else:
        changed[k] = plus(row[k], row[k + 1])
        changed[k + 1] = changed[k]
    return changed


def table_of(board):
    """The table of a board: the sums of the weights of its ways."""
    rows = []
    for place in range(board.size):
        row = [ONE if place == column else () for column in range(board.size)]
        for piece in board.pieces:
            row = row_behind(piece, row)
        rows.append(tuple(row))
    return tuple(rows)


def is_row(size, thing):
    """Whether any value is a tuple of so many sums."""
    return isinstance(thing, tuple) and len(thing) == size and all([is_sum(some) for some in thing])


def is_table(thing):
    """Whether any value is a table of sums."""
    if not isinstance(thing, tuple) or not 1 <= len(thing) <= GREATEST_SIZE:
        return False
    return all([is_row(len(thing), row) for row in thing])


def product_entry(one, other, row, column):
    """The sum at a row and a column of the product of two tables."""
    found = ()
    for at in range(len(one)):
        found = plus(found, times(one[row][at], other[at][column]))
    return found


def product_row(one, other, row):
    """A row of the product of two tables."""
    return tuple([product_entry(one, other, row, column) for column in range(len(one))])


def table_product(one, other):
    """The product of two tables, with the first one on the left."""
    if len(one) != len(other):
        raise OtherSizes()
    return tuple([product_row(one, other, row) for row in range(len(one))])


def entry(table, row, column):
    """The sum at a row and a column."""
    return table[row][column]


def known_minor(table, rows, columns, known):
    """A minor of two such sets; known keeps the minors that were found before."""
    if rows == ():
        return ONE
    if (rows, columns) not in known:
        found = ()
        for at, column in enumerate(columns):
            fewer = known_minor(table, rows[:-1], columns[:at] + columns[at + 1:], known)
            part = times(fewer, table[rows[-1]][column])
            # The sign of an order changes with each greater column ahead of that of the last row.
            is_even = (len(columns) - 1 - at) % 2 == 0
            found = plus(found, part) if is_even else minus(found, part)
        known[(rows, columns)] = found
    return known[(rows, columns)]


def minor(table, rows, columns):
    """The minor of a table for two sets with equally many places."""
    need_sets(len(table), rows, columns)
    return known_minor(table, rows, columns, {})


def company_sums(board, rows):
    """The sums of the weights of all companies from the rows, as a dict from their columns."""
    sums = {rows: ONE}
    for piece in board.pieces:
        found = {}
        for heights, some in sums.items():
            for after, weight in apart_steps(piece, heights):
                found[after] = plus(found.get(after, ()), times(weight_sum(weight), some))
        sums = found
    return sums


def company_sum(board, rows, columns):
    """The sum of the weights of all companies from the rows to the columns."""
    need_sets(board.size, rows, columns)
    return company_sums(board, rows).get(columns, ())


def least_minor(board):
    """The least triple of a number of rows, rows and columns whose minor is zero, None if there is none."""
    need_filled(board)
    for many in range(1, board.size + 1):
        for rows in sets_of(board.size, many):
            sums = company_sums(board, rows)
            for columns in sets_of(board.size, many):
                if sums.get(columns, ()) == ():
                    return (many, rows, columns)
    return None


def is_number_row(size, thing):
    """Whether any value is a tuple of so many numbers."""
    return isinstance(thing, tuple) and len(thing) == size and all([is_number(number) for number in thing])


def reduced_row(row):
    """A row of numbers without common divisors."""
    return tuple([reduced(number) for number in row])


class Table:
    """A table of numbers."""

    def __init__(self, rows):
        if not isinstance(rows, tuple) or not 1 <= len(rows) <= GREATEST_SIZE:
            raise BadRows(-1)
        for number, row in enumerate(rows):
            if not is_number_row(len(rows), row):
                raise BadRows(number)
        self.rows = tuple([reduced_row(own) for own in rows])
        self.size = len(rows)

    def __eq__(self, other):
        return isinstance(other, Table) and self.rows == other.rows

    def sums(self):
        """The table of sums with these numbers."""
        return tuple([tuple([number_sum(worth) for worth in row]) for row in self.rows])
