"""Offers [9.4], and offers.py."""

import itertools
import random
import time
from fractions import Fraction

from tests import slow
from tests.anything import random_things, some_changed, undivided, undivided_masses
from tests.helpers import CompanyTest
from tests.samples import M, odd_things, random_wish
from twocompanies.errors import BadOffers, OtherSizes
from twocompanies.offers import are_offers, do_cover, judge_offers, least_price, offers_holds
from twocompanies.pairings import pairings
from twocompanies.plainform import wish_with
from twocompanies.wishes import Wish, one_product, whole, wish_times

OPEN, NEST = pairings(2)
P, Q, R = one_product(2, (0,), (0,)), one_product(2, (0,), (1,)), whole(2)

# Searches by exchanges that take the greatest gain first go round for ever on these (E. Beale 1955, K. Marshall and
# J. Suurballe 1969, S. Gass and others): gains of the weights, then what they take of each limit, and the limits.
ROUND_FOR_EVER = [
    (("3/4", "-150", "1/50", "-6"), [("1/4", "-60", "-1/25", "9"), ("1/2", "-90", "-1/50", "3"), ("0", "0", "1", "0")], ("0", "0", "1")),
    (("10", "-57", "-9", "-24"), [("1/2", "-11/2", "-5/2", "9"), ("1/2", "-3/2", "-1/2", "1"), ("1", "0", "0", "0")], ("0", "0", "1")),
    (("3/4", "-20", "1/2", "-6"), [("1/4", "-8", "-1", "9"), ("1/2", "-12", "-1/2", "3"), ("0", "0", "1", "0")], ("0", "0", "1")),
    (("2", "3", "-1", "-12"), [("-2", "-9", "1", "9"), ("1/3", "1", "-1/3", "-2")], ("0", "0")),
    (("1", "-2", "0", "-2"), [("1/2", "-7/2", "-2", "4"), ("1/2", "-1", "-1/2", "1/2"), ("1", "0", "0", "0")], ("0", "0", "1")),
    # On these it goes round if the first gain is taken, but of several tightest limits not the one with the first column.
    (("-1", "-3", "-3", "1", "3"), [("2", "1", "2", "3", "4"), ("-1", "-4", "-3", "-1", "-3"), ("4", "-3", "-4", "4", "-2"), ("0", "-3", "2", "3", "-2")], ("0", "0", "0", "0")),
    (("-1", "1", "-3", "1", "2"), [("0", "4", "2", "4", "0"), ("-4", "-1", "1", "0", "-2"), ("2", "3", "-1", "2", "-2"), ("-1", "3", "3", "2", "-1")], ("0", "0", "0", "0")),
    (("-3", "1", "-2", "3", "0"), [("-3", "-1", "-2", "1", "0"), ("1", "2", "-2", "-1", "-1"), ("-3", "0", "-3", "-1", "0"), ("-2", "3", "4", "0", "-2")], ("0", "0", "0", "0")),
    (("4", "1", "-2", "-3"), [("-1", "3", "3", "3"), ("4", "2", "-3", "3"), ("-2", "-3", "-1", "-1"), ("1", "-2", "-4", "2")], ("0", "0", "0", "0")),
    (("1", "3/2", "0", "0", "0"), [("1", "-1", "0", "0", "0"), ("0", "1", "0", "0", "0"), ("-1", "1", "0", "0", "0"), ("1", "1", "0", "0", "0")], ("0", "0", "0", "0")),
]


def number(text):
    return slow.pair_of(Fraction(text))


def with_coordinates(size, texts, places=None):
    """The wish with these coordinates at some places, zero elsewhere."""
    found = [(0, 1)] * len(pairings(size))
    for at, text in zip(places or range(len(texts)), texts):
        found[at] = number(text)
    return wish_with(size, tuple(found))


def cyclers():
    """Targets and offers on which a search by exchanges may go round for ever; of several sizes, in several orders."""
    found = []
    for gains, costs, limits in ROUND_FOR_EVER:
        for size, places in [(3, (0, 1, 2, 3, 4)), (3, (4, 3, 2, 1, 0)), (4, (13, 2, 7, 11, 0)), (4, (1, 12, 5, 3, 9))]:
            target = with_coordinates(size, gains, places)
            offers = tuple((with_coordinates(size, row, places), number(limit)) for row, limit in zip(costs, limits))
            found.extend([(target, offers), (target, offers[::-1])])
    return found


def random_offers(seed, size, many, most=9, zeros=0.3, price=9):
    """A target and offers with integers as coordinates, many of them zero."""
    source = random.Random(seed)

    def wish(least):
        return wish_with(size, tuple((0 if source.random() < zeros else source.randint(least, most), source.choice([1, 1, 2, 3])) for _ in pairings(size)))

    target = wish(-most if seed % 3 else 0)
    return target, tuple((wish(source.choice([0, -most, -1])), (source.randint(0, price), source.randint(1, 3))) for _ in range(many))


def many_offers():
    found = [random_offers(seed, 2 + seed % 3, seed % 6, source_most, zeros, price)
             for seed in range(60) for source_most, zeros, price in [(3, 0.5, 2)]]
    found += [random_offers(seed, 4, 5, 9999, 0.1, 999) for seed in range(10)]
    found += [random_offers(seed, 4, 5, 1, 0.6, 0) for seed in range(20)]
    return found + cyclers()


def best_corner(target, offers):
    """The least price, by trying all corners of what covers the target: only for few offers."""
    rows = [([Fraction(c) for c in row], t) for row, t in zip(zip(*[slow.coordinates(wish) for wish, _ in offers]), slow.coordinates(target))]
    rows += [([Fraction(int(at == other)) for other in range(len(offers))], Fraction(0)) for at in range(len(offers))]
    best = None
    for some in itertools.combinations(rows, len(offers)):
        point = solved([row for row, _ in some], [right for _, right in some])
        if point is None or any(sum(a * x for a, x in zip(row, point)) < right for row, right in rows):
            continue
        price = sum(x * Fraction(*own) for x, (_, own) in zip(point, offers))
        best = price if best is None or price < best else best
    return best


def solved(rows, right):
    """The only solution of as many equations as unknowns, None if there is not exactly one."""
    full = [list(row) + [value] for row, value in zip(rows, right)]
    for at in range(len(full)):
        pivot = next((k for k in range(at, len(full)) if full[k][at] != 0), None)
        if pivot is None:
            return None
        full[at], full[pivot] = full[pivot], full[at]
        full[at] = [value / full[at][at] for value in full[at]]
        for other in range(len(full)):
            if other != at:
                full[other] = [value - full[other][at] * unit for value, unit in zip(full[other], full[at])]
    return [row[-1] for row in full]


class Offers(CompanyTest):
    def test_examples(self):
        offers = ((P, (3, 1)), (R, (1, 1)))
        self.gives(("least", ((1, 1), (0, 1)), (3, 1), ((OPEN, (3, 1)),)), judge_offers, Q, offers)
        self.gives((3, 1), least_price, Q, offers)
        self.gives("uncovered", lambda: judge_offers(Q, offers[1:])[0])
        self.gives(None, least_price, Q, offers[1:])
        for target in (Wish(2, ()), wish_times((-1, 1), P), wish_times((-3, 2), R)):
            self.gives(("least", (), (0, 1), ()), judge_offers, target, ())
            self.gives((0, 1), least_price, target, ())
        self.gives("uncovered", lambda: judge_offers(P, ())[0])

    def test_are_offers(self):
        for thing in [(), ((P, (0, 1)),), ((P, (0, 7)), (Q, (9, 3))), ((whole(6), (1, 1)),), ((Wish(3, ()), (1, 2)),) * 7]:
            self.gives(True, are_offers, thing)
        bad = [None, [], "", 0, {}, P, ((P, (1, 1)), (whole(3), (1, 1))), ((P, (-1, 1)),), ((P, (1, 0)),), ((P, 1),), ((P, True),), ((P, (True, 1)),),
               ((P,),), ((P, (1, 1), 0),), ([P, (1, 1)],), [(P, (1, 1))], ((M, (1, 1)),), (((1, 1), P),), (P, (1, 1)), ((P, (1, 1)), None), ((P, "a"),), ((P, [1, 1]),)]
        for thing in bad:
            self.gives(False, are_offers, thing)
        for thing in odd_things() + random_things(4, 200):
            if thing != ():
                self.gives(False, are_offers, thing)
                self.gives(False, are_offers, ((P, (1, 1)), thing))
                self.gives(False, are_offers, ((P, thing),) if not slow.is_number(thing) else None)

    def test_errors_in_their_order(self):
        other = (whole(3), (1, 1))
        for call in (judge_offers, least_price):
            for thing in odd_things():
                if not isinstance(thing, tuple):
                    self.raises(BadOffers(-1), call, Q, thing)
                self.raises(BadOffers(0), call, Q, (thing,))
                self.raises(BadOffers(2), call, Q, (other, (P, (1, 1)), thing, None))
                self.raises(BadOffers(1), call, Q, (other, (P, thing) if not slow.is_number(thing) else None))
            self.raises(OtherSizes(), call, Q, ((P, (1, 1)), other))
            self.raises(OtherSizes(), call, whole(3), ((P, (1, 1)), (Q, (1, 1))))
            self.raises(BadOffers(1), call, whole(3), ((P, (1, 1)), (Q, (-1, 1))))
            self.raises(BadOffers(-1), call, whole(3), [(P, (1, 1))])
        for thing in odd_things() + [(), ((1, 1),)]:
            self.raises(BadOffers(-1), do_cover, Q, [(P, (1, 1))], thing)
            self.raises(BadOffers(0), do_cover, Q, (None, other), thing)
            self.raises(OtherSizes(), do_cover, Q, (other,), thing)

    def test_judged_papers_are_right(self):
        kinds = {"least": 0, "uncovered": 0}
        for target, offers in many_offers():
            paper = judge_offers(target, offers)
            kinds[paper[0]] += 1
            self.assertTrue(slow.right_offers(target, offers, paper), (str(target), paper))
            self.gives(True, offers_holds, target, offers, paper)
            self.gives(paper, judge_offers, target, offers)
            self.gives(paper[2] if paper[0] == "least" else None, least_price, target, offers)
            if paper[0] == "least":
                self.gives(True, do_cover, target, offers, paper[1])
        self.assertGreater(min(kinds.values()), 20)

    def test_least_price_by_corners(self):
        for seed in range(40):
            target, offers = random_offers(seed, 2 + seed % 2, 1 + seed % 3, 4, 0.3, 5)
            best = best_corner(target, offers)
            self.gives(None if best is None else slow.pair_of(best), least_price, target, offers)

    def test_search_comes_to_an_end(self):
        start = time.monotonic()
        for target, offers in cyclers():
            paper = judge_offers(target, offers)
            self.assertTrue(slow.right_offers(target, offers, paper))
        self.assertLess(time.monotonic() - start, 10)
        target, offers = cyclers()[0]
        self.gives((1, 20), least_price, target, offers)

    def test_prices_of_zero(self):
        free = ((P, (0, 3)), (R, (0, 1)))
        self.gives((0, 1), least_price, Q, free)
        self.gives(True, offers_holds, Q, free, judge_offers(Q, free))
        self.gives(True, offers_holds, Q, free, ("least", ((5, 1), (7, 2)), (0, 9), ()))
        self.gives(False, offers_holds, Q, free, ("least", ((5, 1), (-7, 2)), (0, 1), ()))
        self.gives((0, 1), least_price, P, ((P, (2, 1)), (Q, (0, 1)), (R, (0, 1))))

    def test_prices_with_divisors(self):
        for target, offers in many_offers()[::4]:
            other = tuple((wish, undivided(price, 2 + at)) for at, (wish, price) in enumerate(offers))
            paper = judge_offers(target, offers)
            self.gives(paper, judge_offers, target, other)
            self.gives(True, are_offers, other)
            self.gives(True, offers_holds, target, other, paper)
            if paper[0] == "least":
                paper = ("least", tuple(undivided(own) for own in paper[1]), undivided(paper[2], 3), undivided_masses(paper[3]))
            else:
                paper = ("uncovered", undivided_masses(paper[1]))
            self.gives(True, offers_holds, target, other, paper)

    def test_do_cover(self):
        offers = ((P, (3, 1)), (R, (1, 1)))
        for thing in [((1, 1), (0, 1)), ((2, 2), (0, 5)), ((3, 2), (1, 9)), ((10 ** 30, 1), (0, 1))]:
            self.gives(True, do_cover, Q, offers, thing)
        for thing in [((0, 1), (5, 1)), ((1, 2), (9, 1)), ((1, 1),), ((1, 1), (0, 1), (0, 1)), [(1, 1), (0, 1)], ((1, 1), (-1, 1)), ((1, 1), 0),
                      ((True, 1), (0, 1)), ((1, 1), (0, 0)), (), ((1, 1), None), ([1, 1], (0, 1)), None]:
            self.gives(False, do_cover, Q, offers, thing)
        for thing in odd_things() + random_things(5, 200):
            self.gives(slow.do_cover(Q, offers, thing), do_cover, Q, offers, thing)
            self.gives(thing == (), do_cover, Wish(2, ()), (), thing)
        for seed, (target, some) in enumerate(many_offers()[:60]):
            source = random.Random(seed)
            for _ in range(6):
                amounts = tuple((source.randint(0, 6), source.randint(1, 2)) for _ in some)
                self.gives(slow.do_cover(target, some, amounts), do_cover, target, some, amounts)

    def test_changed_papers(self):
        for seed, (target, offers) in enumerate(many_offers()[::5]):
            for thing in some_changed(judge_offers(target, offers), seed, 60):
                self.gives(slow.right_offers(target, offers, thing), offers_holds, target, offers, thing)

    def test_other_right_papers(self):
        offers = ((P, (1, 1)), (Q, (1, 1)), (R, (1, 1)))
        for amounts in [((1, 1), (0, 1), (0, 1)), ((0, 1), (1, 1), (1, 1)), ((1, 2), (1, 2), (1, 2))]:
            for weights in [((OPEN, (1, 1)),), ((NEST, (1, 1)),), ((OPEN, (1, 2)), (NEST, (1, 2))), ((OPEN, (1, 1)), (NEST, (1, 1)))]:
                for price in [(1, 1), (3, 2), (2, 1), (2, 2)]:
                    thing = ("least", amounts, price, weights)
                    self.gives(slow.right_offers(P, offers, thing), offers_holds, P, offers, thing)
        self.gives(True, offers_holds, P, offers, ("least", ((1, 1), (0, 1), (0, 1)), (3, 3), ((NEST, (5, 5)),)))
        self.gives(False, offers_holds, P, offers, ("least", ((0, 1), (1, 1), (1, 1)), (2, 1), ((NEST, (1, 1)),)))
        self.gives(True, offers_holds, Q, ((R, (1, 1)),), ("uncovered", ((OPEN, (7, 3)),)))
        self.gives(False, offers_holds, Q, ((R, (1, 1)),), ("uncovered", ((OPEN, (7, 3)), (NEST, (0, 1)))))
        self.gives(False, offers_holds, Q, ((R, (1, 1)),), ("uncovered", ((OPEN, (7, 3)), (NEST, (1, 1)))))
        self.gives(False, offers_holds, Q, ((R, (1, 1)),), ("uncovered", ()))

    def test_offers_that_are_not_valid(self):
        paper = judge_offers(Q, ((P, (3, 1)),))
        for offers in [[(P, (3, 1))], ((P, (-3, 1)),), ((P, 3),), ((whole(3), (3, 1)),), ((P, (3, 1)), (whole(3), (0, 1))), None, 5, ((P, (3, 0)),)]:
            self.gives(False, offers_holds, Q, offers, paper)
            self.gives(False, offers_holds, Q, offers, ("uncovered", ((OPEN, (1, 1)),)))
        self.gives(False, offers_holds, whole(3), ((P, (3, 1)),), paper)
        self.gives(False, offers_holds, whole(3), ((P, (3, 1)),), ("uncovered", ((pairings(3)[0], (1, 1)),)))
        for thing in odd_things() + random_things(6, 200):
            self.gives(thing == () and False, offers_holds, Q, thing, paper)
            self.gives(False, offers_holds, Q, ((P, (3, 1)),), thing)
            for own in [("least", thing, (3, 1), paper[3]), ("least", paper[1], thing, paper[3]), ("least", paper[1], (3, 1), thing), ("uncovered", thing)]:
                self.gives(slow.right_offers(Q, ((P, (3, 1)),), own), offers_holds, Q, ((P, (3, 1)),), own)

    def test_at_the_limits(self):
        start = time.monotonic()
        for seed in range(40):
            target, offers = random_offers(seed, 4, 5, 9999, 0, 999999)
            paper = judge_offers(target, offers)
            self.gives(True, offers_holds, target, offers, paper)
            self.assertTrue(slow.right_offers(target, offers, paper))
        self.assertLess(time.monotonic() - start, 20)

    def test_fractions(self):
        for seed in range(12):
            target = random_wish(seed, 4, 8)
            offers = tuple((random_wish(seed * 50 + at, 4, 6), (1 + seed, 1 + at)) for at in range(1, 6)) + ((one_product(4, (0,), (0,)), (7, 3)),)
            paper = judge_offers(target, offers)
            self.assertTrue(slow.right_offers(target, offers, paper))

    def test_by_name(self):
        offers = ((P, (3, 1)),)
        self.assertTrue(are_offers(thing=offers))
        self.assertTrue(offers_holds(thing=judge_offers(offers=offers, target=Q), offers=offers, target=Q))
        self.assertEqual(least_price(offers=offers, target=Q), (3, 1))
        self.assertTrue(do_cover(thing=((1, 1),), offers=offers, target=Q))
