"""The guarantee [0.4], over the whole program, and what holds of all its functions [0.2]."""

import copy
import random

from tests import slow
from tests.anything import random_things
from tests.helpers import CompanyTest, strict
from tests.samples import A, M, odd_things, random_board, random_wish
from twocompanies import (asking, boards, companies, consoles, coordinates, covers, deciding, drawing, errors, ever, factors, houses, offers, orders, pairings, plainform,
                          products, shares, speech, sums, tables, ways, wishes, words)
from twocompanies.boards import Board
from twocompanies.drawing import straight
from twocompanies.houses import House
from twocompanies.wishes import Wish, filled_worth, one_product, wish_minus, wish_of, wish_times, worth

B3 = Board(3, (("meet", 0), ("down", 1, (1, 2))))


class Guarantee(CompanyTest):
    def test_never_below_or_a_board(self):
        for seed in range(60):
            size = 1 + seed % 4
            wish = random_wish(seed, size, 1 + seed % 5)
            paper = ever.judge_never(wish)
            if paper[0] == "below":
                self.assertLess(slow.worth(wish, paper[1]), 0)
                self.assertTrue(boards.is_filled(paper[1]))
            worths = [slow.worth(wish, random_board(99 * seed + number, size, 6)) for number in range(6)]
            if min(worths) < 0:
                self.assertEqual(paper[0], "below")

    def test_alike_or_a_board(self):
        for seed in range(60):
            size = 1 + seed % 4
            one, other = random_wish(seed, size, 3), random_wish(seed + 7, size, 3)
            if seed % 2:
                other = plainform.plain_form(one)
            paper = ever.judge_alike(one, other)
            if paper[0] == "parted":
                self.assertNotEqual(slow.worth(one, paper[1]), slow.worth(other, paper[1]))
            for number in range(5):
                board = random_board(77 * seed + number, size, 6)
                if slow.worth(one, board) != slow.worth(other, board):
                    self.assertEqual(paper[0], "parted")

    def test_factors_on_boards(self):
        for seed in range(30):
            size = 2 + seed % 3
            one, other = random_wish(seed, size, 4), random_wish(seed + 70, size, 2)
            paper = factors.judge_factors(one, other)
            for number in range(6):
                board = random_board(55 * seed + number, size, 6)
                a, b = slow.worth(one, board), slow.worth(other, board)
                if paper[0] == "stretch":
                    for bound in paper[1:]:
                        if bound is not None:
                            self.assertGreaterEqual(a - slow.Fraction(*bound) * b, 0)

    def test_prices_on_boards(self):
        for seed in range(20):
            target = random_wish(seed, 3, 3)
            given = tuple((one_product(3, *product), (1 + at, 2)) for at, product in enumerate(products.products(3)[:5]))
            paper = offers.judge_offers(target, given)
            for number in range(5):
                board = random_board(44 * seed + number, 3, 6)
                if paper[0] == "least":
                    covered = sum(slow.Fraction(*amount) * slow.worth(wish, board) for amount, (wish, _) in zip(paper[1], given))
                    self.assertGreaterEqual(covered, slow.worth(target, board))

    def test_companies_minors_and_shares_give_the_same_worth(self):
        for seed in range(40):
            size = 1 + seed % 4
            board = random_board(seed, size, 7, ("a", "b") if seed % 3 else ())
            wish = random_wish(seed, size, 5)
            by_companies, by_minors = (), ()
            table = tables.table_of(board)
            for (rows, columns), number in wish.parts:
                others = products.other_company(size, (rows, columns))
                company = sums.times(tables.company_sum(board, rows, columns), tables.company_sum(board, *others))
                both = sums.times(tables.minor(table, rows, columns), tables.minor(table, *others))
                by_companies = sums.plus(by_companies, sums.scaled(number, company))
                by_minors = sums.plus(by_minors, sums.scaled(number, both))
            self.gives(by_companies, shares.worth_by_shares, wish, board)
            self.gives(by_minors, worth, wish, board)
            self.assertEqual(by_companies, by_minors)

    def test_a_house_gives_what_the_modules_give(self):
        for seed in range(20):
            size = 1 + seed % 4
            house = House(size)
            wish, board = random_wish(seed, size, 4), random_board(seed, size, 8, ("a",))
            house.deal((("wish", "w", wish), ("board", "b", board)))
            self.gives(shares.worth_by_shares(wish, board), house.worth, "w", "b")
            self.gives(shares.shares(board), house.shares, "b")
            self.gives(plainform.plain_form(wish) and coordinates.coordinates_by_boards(wish), house.coordinates, "w")
            console = consoles.Console(house)
            self.gives(sums.sum_text(worth(wish, board)), console.run, "worth w b")
            self.assertEqual(House.read(str(house)), house)

    def test_what_is_returned_can_be_passed(self):
        """Boards, wishes and numbers of papers, however great, in other questions."""
        great = Board(3, (("down", 0, (999983, 999979)), ("up", 1, (1, 999983)), ("up", 0, (999979, 3)), ("down", 1, (7, 2))))
        misled = deciding.judge_boards((great,))[1]
        self.assertTrue(ever.never_holds(misled, ever.judge_never(misled)))
        high = factors.greatest_factor(misled, wishes.whole(3))
        numbers = [number for _, number in misled.parts] + [filled_worth(wishes.whole(3), great), factors.greatest_factor(wishes.whole(3), misled) or (1, 1)]
        for number in numbers:
            wish = wish_of(3, ((((0,), (0,)), number), (((0,), (1,)), (1, 3))))
            given = ((misled, (abs(number[0]), number[1])), (wishes.whole(3), (1, 1)))
            self.assertTrue(offers.offers_holds(wish, given, offers.judge_offers(wish, given)))
            self.assertTrue(factors.factors_holds(wish, misled, factors.judge_factors(wish, misled)))
            self.assertIsInstance(factors.is_factor(wish, misled, number), bool)
        house = House(3)
        house.deal((("wish", "w", misled), ("board", "b", great), ("part", "w", ((0,), (0,)), numbers[-2])))
        house.change(("promise", ("between", "w", "b", None, slow.pair_of(slow.worth(house.wish("w"), great)))))
        self.assertEqual(House.read(str(house)), house)


# For each function with an argument that may be any value: the function, the arguments ahead of it, and the error for what is not right.
REFUSING = [
    (drawing.planned, (), errors.BadText), (Board.read, (), errors.BadText), (Wish.read, (), errors.BadText), (House.read, (), errors.BadText),
    (speech.spoken, (), errors.BadSpeech), (sums.sum_read, (), errors.BadText), (pairings.pairing_read, (), errors.BadText),
    (Board, (2,), errors.BadPieces), (Wish, (2,), errors.BadParts), (wishes.wish_of, (2,), errors.BadParts), (tables.Table, (), errors.BadRows),
    (House, (), errors.BadSize), (pairings.pairings, (), errors.BadSize), (orders.lowest, (), errors.BadSize), (products.products, (), errors.BadSize),
    (shares.share, (M,), errors.BadPairing), (coordinates.coordinate, (wishes.whole(2),), errors.BadPairing), (orders.bunch, (), errors.BadPairing), (words.told_board, (), errors.BadPairing),
    (covers.loads, (A,), errors.BadCover), (boards.filled, (A,), errors.BadFilling), (words.pairing_made, (3,), errors.BadWord),
    (orders.just_above, (2,), errors.BadProduct), (plainform.relation, (2,), errors.BadProduct), (plainform.wish_with, (2,), errors.BadCoordinates),
    (offers.judge_offers, (wishes.whole(2),), errors.BadOffers), (offers.least_price, (wishes.whole(2),), errors.BadOffers), (deciding.judge_boards, (), errors.BadBoards),
    (deciding.spare, (), errors.BadBoards), (deciding.lacking, (), errors.BadBoards), (asking.judged, (), errors.BadQuestion), (asking.is_told_yes, (), errors.BadQuestion),
    (ways.way_weight, (A,), errors.BadTangle), (companies.sign_of, (A, (0,), (0,)), errors.BadTangle),
    (House(2).board, (), errors.NoName), (House(2).wish, (), errors.NoName), (House(2).shares, (), errors.NoName), (House(2).coordinates, (), errors.NoName),
    (House(2).worth, ("w",), errors.NoName), (House(2).deal, (), errors.BadChange), (House(2).would, (), errors.BadChange), (House(2).change, (), errors.BadChange),
    (House(2).judged, (), errors.BadPromise), (consoles.Console(House(2)).run, (), errors.InvalidCommand),
]
JUDGING = [
    (boards.is_weight, ()), (boards.is_piece, (2,)), (ways.is_way, (A,)), (companies.is_company, (A, (0,), (1,))), (sums.is_term, ()), (sums.is_sum, ()), (tables.is_table, ()),
    (pairings.is_pairing, (3,)), (words.is_word, (3,)), (products.is_product, (3,)), (covers.is_cover, (A,)), (companies.tangle_holds, (M, (0,), (1,), ((0, 1),))),
    (ever.never_holds, (wishes.whole(3),)), (ever.alike_holds, (wishes.whole(3), Wish(3, ()))), (factors.factors_holds, (wishes.whole(3), wishes.whole(3))), (offers.are_offers, ()),
    (offers.offers_holds, (wishes.whole(2), ())), (offers.do_cover, (wishes.whole(2), ((wishes.whole(2), (1, 2)),))), (orders.order_holds, (2, ((0,), (0,)), ((0,), (1,)))),
    (deciding.boards_holds, ((M, straight(2)),)), (deciding.boards_holds, ((M,),)), (asking.is_question, ()), (asking.paper_holds, (("never", wishes.whole(2)),)),
    (asking.paper_holds, (("boards", (B3,)),)),
]
WRAPPED = ["never", "below", "alike", "parted", "stretch", "none", "least", "uncovered", "decide", "misled", "not below", "company", "cancels", "board", "wish", "drop", "rename",
           "insert", "weigh", "fill", "part", "promise", "release", "order", "boards", "offers", "factors", "tangle"]


def things(seed):
    """Values of any kind, some of them behind a word that papers, questions or changes begin with."""
    source = random.Random(seed)
    found = odd_things() + random_things(seed, 150)
    for _ in range(150):
        found.append((source.choice(WRAPPED),) + tuple(random_things(source.random(), source.randint(1, 3))))
    return found


class AnyValue(CompanyTest):
    def test_functions_that_judge(self):
        for call, ahead in JUDGING:
            for thing in things(21):
                kept = copy.deepcopy(thing)
                self.assertIn(call(*ahead, thing), (True, False), call)
                self.assertEqual(strict(thing), strict(kept))

    def test_functions_that_refuse(self):
        for call, ahead, error in REFUSING:
            for thing in things(22):
                kept = copy.deepcopy(thing)
                try:
                    call(*ahead, thing)
                except errors.CompanyError as found:
                    # Changes have errors of their own, and sizes of things by chance are other ones.
                    if call.__name__ != "change" and not isinstance(found, errors.OtherSizes):
                        self.assertIs(type(found), error, (call, thing))
                self.assertEqual(strict(thing), strict(kept))

    def test_the_same_call_gives_the_same(self):
        calls = [lambda: ever.judge_never(random_wish(3, 4, 6)), lambda: factors.judge_factors(random_wish(4, 4, 6), random_wish(5, 4, 2)),
                 lambda: offers.judge_offers(random_wish(3, 3, 3), ((random_wish(4, 3, 3), (1, 2)), (wishes.whole(3), (0, 1)))), lambda: deciding.judge_boards((M,)),
                 lambda: asking.judged(("order", 4, products.products(4)[5], products.products(4)[0])), lambda: shares.shares(random_board(5, 4, 8, ("a", "b")))]
        for call in calls:
            self.assertEqual(strict(call()), strict(call()))

    def test_objects_equal_only_their_own_kind(self):
        made = [Board(2, ()), Wish(2, ()), House(2), tables.Table((((1, 1), (0, 1)), ((0, 1), (1, 1)))), consoles.Console(House(2))]
        for at, one in enumerate(made):
            for other in made[:at] + made[at + 1:] + [None, 2, (2, ()), "board 2"]:
                self.assertFalse(one == other)
                self.assertTrue(one != other)

    def test_never_below_by_signs(self):
        """Sums of wishes that are never below zero are never below zero; their differences may be."""
        for seed in range(20):
            one, other = one_product(3, *products.products(3)[seed % 10]), one_product(3, *products.products(3)[seed // 2])
            self.assertTrue(ever.is_never_below(wishes.wish_plus(one, wish_times((seed, 7), other))))
            self.assertEqual(ever.is_never_below(wish_minus(one, other)), orders.does_stay_below(3, other.parts[0][0], one.parts[0][0]))
