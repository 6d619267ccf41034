"""What holds, found a second time: from the words of the document, with fractions, however slowly."""

import itertools
from fractions import Fraction

from twocompanies.boards import Board
from twocompanies.pairings import pairings
from twocompanies.wishes import Wish


def is_number(thing):
    return type(thing) is tuple and len(thing) == 2 and all(type(part) is int for part in thing) and thing[1] >= 1


def pair_of(fraction):
    """The number without a common divisor that a fraction is."""
    return (fraction.numerator, fraction.denominator)


def does_fit(product, pairing):
    """Whether each pair has a dark and a light place."""
    size = len(pairing)
    rows, columns = product
    dark = set(rows) | {2 * size - 1 - column for column in range(size) if column not in columns}
    return all((a in dark) != (b in dark) for a, b in pairing)


def coordinates(wish):
    """The list of the coordinates of a wish, as fractions."""
    return [sum((Fraction(*own) for product, own in wish.parts if does_fit(product, pairing)), Fraction(0)) for pairing in pairings(wish.size)]


def masses(wish):
    return {pairing: own for pairing, own in zip(pairings(wish.size), coordinates(wish)) if own != 0}


def table(board):
    """The rows of the table of a filled board, as fractions."""
    found = [[Fraction(int(i == j)) for j in range(board.size)] for i in range(board.size)]
    for piece in board.pieces:
        k = piece[1]
        step = [[Fraction(int(i == j)) for j in range(board.size)] for i in range(board.size)]
        if piece[0] == "down":
            step[k][k + 1] = Fraction(*piece[2])
        elif piece[0] == "up":
            step[k + 1][k] = Fraction(*piece[2])
        elif piece[0] == "pass":
            step[k][k] = Fraction(*piece[2])
        else:
            step[k][k + 1] = step[k + 1][k] = Fraction(1)
        found = [[sum(row[h] * step[h][j] for h in range(board.size)) for j in range(board.size)] for row in found]
    return found


def determinant(rows):
    if not rows:
        return Fraction(1)
    return sum((-1) ** at * rows[0][at] * determinant([row[:at] + row[at + 1:] for row in rows[1:]]) for at in range(len(rows)))


def worth(wish, board):
    """The worth of a wish at a filled board, a fraction."""
    full = table(board)
    places = range(wish.size)
    found = Fraction(0)
    for (rows, columns), number in wish.parts:
        one = [[full[i][j] for j in columns] for i in rows]
        other = [[full[i][j] for j in places if j not in columns] for i in places if i not in rows]
        found += Fraction(*number) * determinant(one) * determinant(other)
    return found


def is_board(size, thing):
    """Whether a value is a filled board of this size."""
    return type(thing) is Board and thing.size == size and not any(isinstance(part, str) for piece in thing.pieces for part in piece[1:])


def strict_tuple(thing):
    """A value that tells bools from integers, and lists from tuples."""
    if type(thing) in (tuple, list):
        return (type(thing).__name__, [strict_tuple(part) for part in thing])
    return (type(thing).__name__, thing)


def is_pairing(size, thing):
    return any(strict_tuple(thing) == strict_tuple(pairing) for pairing in pairings(size))


def weights(size, thing):
    """A dict of fractions, for a value of pairs of ascending pairings and numbers; None for another value."""
    if type(thing) is not tuple or not all(type(pair) is tuple and len(pair) == 2 for pair in thing):
        return None
    if not all(is_pairing(size, pair[0]) and is_number(pair[1]) for pair in thing):
        return None
    if any(before[0] >= after[0] for before, after in zip(thing, thing[1:])):
        return None
    return {pairing: Fraction(*number) for pairing, number in thing}


def is_paper(thing, kind, many):
    return type(thing) is tuple and len(thing) == many and type(thing[0]) is str and thing[0] == kind


def right_never(wish, thing):
    if is_paper(thing, "never", 2):
        return weights(wish.size, thing[1]) == masses(wish) and min(coordinates(wish)) >= 0
    return is_paper(thing, "below", 2) and is_board(wish.size, thing[1]) and worth(wish, thing[1]) < 0


def right_alike(one, other, thing):
    if is_paper(thing, "alike", 2):
        return weights(one.size, thing[1]) == masses(one) == masses(other)
    return is_paper(thing, "parted", 2) and is_board(one.size, thing[1]) and worth(one, thing[1]) != worth(other, thing[1])


def stretch(one, other):
    """The least and the greatest factor, None for none; None alone if there is no factor."""
    pairs = list(zip(coordinates(one), coordinates(other)))
    if any(b == 0 and a < 0 for a, b in pairs):
        return None
    low = max((a / b for a, b in pairs if b < 0), default=None)
    high = min((a / b for a, b in pairs if b > 0), default=None)
    return None if low is not None and high is not None and low > high else (low, high)


def right_factors(one, other, thing):
    if is_paper(thing, "stretch", 3):
        if not all(bound is None or is_number(bound) for bound in thing[1:]):
            return False
        return stretch(one, other) == tuple(None if bound is None else Fraction(*bound) for bound in thing[1:])
    if not is_paper(thing, "none", 2) or type(thing[1]) is not tuple or not all(is_board(one.size, board) for board in thing[1]):
        return False
    worths = [(worth(one, board), worth(other, board)) for board in thing[1]]
    if len(worths) == 1:
        return worths[0][1] == 0 and worths[0][0] < 0
    if len(worths) != 2 or worths[0][1] <= 0 or worths[1][1] >= 0:
        return False
    return worths[0][0] / worths[0][1] < worths[1][0] / worths[1][1]


def amounts(offers, thing):
    """A list of fractions, for a value that is amounts; None for another one."""
    if type(thing) is not tuple or len(thing) != len(offers) or not all(is_number(part) and part[0] >= 0 for part in thing):
        return None
    return [Fraction(*part) for part in thing]


def do_cover(target, offers, thing):
    some = amounts(offers, thing)
    if some is None:
        return False
    left = [-own for own in coordinates(target)]
    for amount, (wish, _) in zip(some, offers):
        left = [own + amount * other for own, other in zip(left, coordinates(wish))]
    return min(left) >= 0


def valued(found, wish):
    return sum(found.get(pairing, 0) * own for pairing, own in zip(pairings(wish.size), coordinates(wish)))


def right_offers(target, offers, thing):
    least = is_paper(thing, "least", 4)
    if not least and not is_paper(thing, "uncovered", 2):
        return False
    found = weights(target.size, thing[3 if least else 1])
    if found is None or min(found.values(), default=1) <= 0:
        return False
    if not least:
        return valued(found, target) > 0 and all(valued(found, wish) <= 0 for wish, _ in offers)
    if not do_cover(target, offers, thing[1]) or not is_number(thing[2]):
        return False
    price = sum(amount * Fraction(*own) for amount, (_, own) in zip(amounts(offers, thing[1]), offers))
    if Fraction(*thing[2]) != price or valued(found, target) != price:
        return False
    return all(valued(found, wish) <= Fraction(*own) for wish, own in offers)


def all_products(size):
    """All products of a size."""
    places = range(size)
    sets = [some for many in range(size + 1) for some in itertools.combinations(places, many)]
    return sorted((rows, columns) for rows in sets for columns in sets if len(rows) == len(columns) and 0 in rows)


def fits(product, size):
    return frozenset(pairing for pairing in pairings(size) if does_fit(product, pairing))
