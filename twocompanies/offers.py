"""Offers: which sums of wishes with prices cover a target, and at which least price.

Weights of the pairings tell how cheap it can be: if they value each offer at most at its price, whatever covers
the target costs at least what they value the target at. So the weights that value the target most are sought.
"""

from twocompanies.coordinates import coordinates
from twocompanies.errors import BadOffers, OtherSizes
from twocompanies.exchanges import searched
from twocompanies.numerals import is_less, number_minus, number_plus, number_times, reduced
from twocompanies.pairings import pairings
from twocompanies.papers import is_paper, masses_read
from twocompanies.values import is_number, is_pair
from twocompanies.wishes import Wish


def is_price(thing):
    """Whether any value is a number that is at least zero."""
    return is_number(thing) and thing[0] >= 0


def is_offer(thing):
    """Whether any value is a pair of a wish and a price."""
    return is_pair(thing) and isinstance(thing[0], Wish) and is_price(thing[1])


def have_size(offers, size):
    """Whether the wishes of all offers have this size."""
    return all([wish.size == size for wish, price in offers])


def are_offers(thing):
    """Whether any value is a tuple of offers with wishes of one size."""
    if not isinstance(thing, tuple) or not all([is_offer(offer) for offer in thing]):
        return False
    return thing == () or have_size(thing, thing[0][0].size)


def need_offers(target, offers):
    """Raises BadOffers, then OtherSizes, for what are not offers of the size of a target."""
    if not isinstance(offers, tuple):
        raise BadOffers(-1)
    for number, offer in enumerate(offers):
        if not is_offer(offer):
            raise BadOffers(number)
    if not have_size(offers, target.size):
        raise OtherSizes()


def weights_of(size, numbers):
    """The ascending tuple of the pairs of a pairing and its number in a dict, but for zero."""
    found = []
    for at, pairing in enumerate(pairings(size)):
        number = numbers.get(at, (0, 1))
        if number[0] != 0:
            found.append((pairing, number))
    return tuple(found)


def judge_offers(target, offers):
    """The paper of the least price of a target, or that it is not covered."""
    need_offers(target, offers)
    gains = coordinates(target)
    costs = [coordinates(wish) for wish, price in offers]
    rows, own, column = searched(gains, costs, [price for wish, price in offers])
    if column is None:
        amounts = [number_minus((0, 1), gain) for gain in rows[-1][len(gains):-1]]
        weights = weights_of(target.size, {own[at]: rows[at][-1] for at in range(len(own))})
        return ("least", tuple(amounts), number_minus((0, 1), rows[-1][-1]), weights)
    # The more weight this column has, the more the own columns of the rows have.
    numbers = {own[at]: number_minus((0, 1), rows[at][column]) for at in range(len(own))}
    numbers[column] = (1, 1)
    return ("uncovered", weights_of(target.size, numbers))


def amounts_read(offers, thing):
    """Amounts, one for each offer, without common divisors; None for any value that is none."""
    if not isinstance(thing, tuple) or len(thing) != len(offers) or not all([is_price(amount) for amount in thing]):
        return None
    return [reduced(amount) for amount in thing]


def do_amounts_cover(target, offers, amounts):
    """Whether amounts that are read cover a target."""
    left = [(-number[0], number[1]) for number in coordinates(target)]
    for amount, (wish, _) in zip(amounts, offers):
        left = [number_plus(one, number_times(amount, own)) for one, own in zip(left, coordinates(wish))]
    return all([number[0] >= 0 for number in left])


def price_of(offers, amounts):
    """The price of amounts that are read."""
    found = (0, 1)
    for amount, (_, price) in zip(amounts, offers):
        found = number_plus(found, number_times(amount, reduced(price)))
    return found


def weights_read(size, thing):
    """A dict from pairings to numbers, for any value that is weights; None for another one."""
    masses = masses_read(size, thing)
    if masses is None or not all([number[0] > 0 for pairing, number in masses]):
        return None
    return {pairing: number for pairing, number in masses}


def value_by(weights, wish):
    """The sum of the coordinates of a wish, each multiplied by the weight of its pairing."""
    found = (0, 1)
    for pairing, number in zip(pairings(wish.size), coordinates(wish)):
        if pairing in weights:
            found = number_plus(found, number_times(weights[pairing], number))
    return found


def does_show_least(target, offers, paper):
    """Whether a tuple of four items shows the least price of a target."""
    amounts = amounts_read(offers, paper[1])
    weights = weights_read(target.size, paper[3])
    if amounts is None or weights is None or not is_number(paper[2]):
        return False
    price = reduced(paper[2])
    if price != price_of(offers, amounts) or price != value_by(weights, target):
        return False
    if not do_amounts_cover(target, offers, amounts):
        return False
    return not any([is_less(own, value_by(weights, wish)) for wish, own in offers])


def does_show_uncovered(target, offers, paper):
    """Whether a tuple of two items shows that a target is not covered."""
    weights = weights_read(target.size, paper[1])
    if weights is None or value_by(weights, target)[0] <= 0:
        return False
    return all([value_by(weights, wish)[0] <= 0 for wish, price in offers])


def offers_holds(target, offers, thing):
    """Whether any value is a paper of the least price of a target, or that it is not covered."""
    if not are_offers(offers) or not have_size(offers, target.size):
        return False
    if is_paper(thing, "least", 4):
        return does_show_least(target, offers, thing)
    return is_paper(thing, "uncovered", 2) and does_show_uncovered(target, offers, thing)


def least_price(target, offers):
    """The least price of what covers a target, None if it is not covered."""
    paper = judge_offers(target, offers)
    return paper[2] if paper[0] == "least" else None


def do_cover(target, offers, thing):
    """Whether any value is amounts of these offers that cover a target."""
    need_offers(target, offers)
    amounts = amounts_read(offers, thing)
    return amounts is not None and do_amounts_cover(target, offers, amounts)
