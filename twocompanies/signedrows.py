"""Signed rows: what wishes and pairings give for each order of the columns."""

from twocompanies.coordinates import masses
from twocompanies.numerals import number_plus, number_times
from twocompanies.pairings import joined, need_pairing, pairings, straight_pairing
from twocompanies.sums import number_of
from twocompanies.tables import Table, table_of
from twocompanies.words import meeting_pairing, told_boards


def joinings(size):
    """A dict from a pairing and a meeting behind it to the pairing that they make and the factor of its rings."""
    found = {}
    for meeting in range(size - 1):
        last = meeting_pairing(size, meeting)
        for pairing in pairings(size):
            made, rings = joined(pairing, last)
            found[(pairing, meeting)] = (made, 1 if rings == 0 else 2)
    return found


def times_exchange(numbers, meeting, joins):
    """What numbers of pairings become if they are multiplied by the pairing of a meeting minus 1."""
    found = {pairing: -number for pairing, number in numbers.items()}
    for pairing, number in numbers.items():
        made, factor = joins[(pairing, meeting)]
        found[made] = found.get(made, 0) + number * factor
    return found


def order_behind(order, meeting):
    """The order with the columns k and k + 1 exchanged, wherever they stand."""
    exchange = {meeting: meeting + 1, meeting + 1: meeting}
    return tuple([exchange.get(column, column) for column in order])


def factors_of_orders(size):
    """A dict from each order to a dict from pairings to the integers with which they occur for it.

    All orders that some number of exchanges leads to are found before those that need more of them,
    so each order is found by a shortest sequence.
    """
    joins = joinings(size)
    found = {tuple(range(size)): {straight_pairing(size): 1}}
    latest = list(found)
    while latest != []:
        further = []
        for order in latest:
            for meeting in range(size - 1):
                after = order_behind(order, meeting)
                if after not in found:
                    found[after] = times_exchange(found[order], meeting, joins)
                    further.append(after)
        latest = further
    return found


def rows_of(size, some):
    """The signed rows of some pairings, each multiplied by the number that is paired with it."""
    rows = []
    for order, factors in factors_of_orders(size).items():
        number = (0, 1)
        for pairing, mass in some:
            number = number_plus(number, number_times(mass, (factors.get(pairing, 0), 1)))
        if number[0] != 0:
            rows.append((order, number))
    return tuple(sorted(rows))


def signed_rows(wish):
    """The signed rows of a wish: those of all pairings, each multiplied by its coordinate."""
    return rows_of(wish.size, masses(wish))


def pairing_rows(pairing):
    """The signed rows of a pairing."""
    need_pairing(pairing)
    return rows_of(len(pairing), ((pairing, (1, 1)),))


def rows_worth(rows, table):
    """The number that signed rows give at a table."""
    found = (0, 1)
    for order, number in rows:
        part = number
        for row, column in enumerate(order):
            part = number_times(part, table.rows[row][column])
        found = number_plus(found, part)
    return found


def number_table(board):
    """The table of a filled board as a table of numbers."""
    return Table(tuple([tuple([number_of(some) for some in row]) for row in table_of(board)]))


def coordinates_by_rows(wish):
    """The coordinates of a wish, from its signed rows: what these give at the told boards."""
    rows = signed_rows(wish)
    return tuple([rows_worth(rows, number_table(board)) for board in told_boards(wish.size)])
