"""The greatest gain that weights can have within some limits, found by exchanges.

The rows are lists of numbers: one row for each limit, with the gains as the last row. There is a column for each
weight, then one for what each limit leaves, and the last column has the limits. In each row of a limit one
column, its own, has the number 1 and stands in no other row. The weights of all columns but these are zero.
"""

from twocompanies.numerals import is_less, number_minus, number_over, number_times, reduced


def first_rows(gains, costs, limits):
    """The rows ahead of all exchanges: costs has for each limit what the weights take of it."""
    many = len(limits)
    rows = []
    for at in range(many):
        left = [(1, 1) if other == at else (0, 1) for other in range(many)]
        rows.append(list(costs[at]) + left + [reduced(limits[at])])
    return rows + [list(gains) + [(0, 1)] * (many + 1)]


def first_gain(row):
    """The number of the first column with a gain above zero, None if there is none."""
    for column in range(len(row) - 1):
        if row[column][0] > 0:
            return column
    return None


def tightest(rows, own, column):
    """The number of the row that limits the weight of a column most, None if none limits it.

    Of several such rows the one whose own column comes first is taken, since otherwise the exchanges
    may go round for ever (R. Bland 1977).
    """
    best = None
    least = (0, 1)
    for at, row in enumerate(rows[:-1]):
        if row[column][0] <= 0:
            continue
        room = number_over(row[-1], row[column])
        if best is None or is_less(room, least) or (room == least and own[at] < own[best]):
            best, least = at, room
    return best


def row_without(row, column, unit):
    """A row minus the multiple of another row, with 1 in a column, that leaves zero in this column."""
    factor = row[column]
    if factor[0] == 0:
        return row
    return [number_minus(number, number_times(factor, taken)) for number, taken in zip(row, unit)]


def exchanged_rows(rows, at, column):
    """The rows once this column is the own column of the row of this number."""
    unit = [number_over(number, rows[at][column]) for number in rows[at]]
    return [unit if other == at else row_without(row, column, unit) for other, row in enumerate(rows)]


def searched(gains, costs, limits):
    """The rows and the own columns behind all exchanges, and the column whose weight nothing limits, if there is one.

    All limits must be at least zero.
    """
    rows = first_rows(gains, costs, limits)
    own = list(range(len(gains), len(gains) + len(limits)))
    column = first_gain(rows[-1])
    while column is not None:
        at = tightest(rows, own, column)
        if at is None:
            return (rows, own, column)
        rows = exchanged_rows(rows, at, column)
        own[at] = column
        column = first_gain(rows[-1])
    return (rows, own, None)
