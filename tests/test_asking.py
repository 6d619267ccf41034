"""Questions [11.1], turned questions [11.2], and asking.py."""

from tests import slow
from tests.anything import random_things, some_changed, undivided, undivided_masses
from tests.helpers import CompanyTest
from tests.samples import A, LONG_NUMBER, M, odd_things, random_board
from tests.test_deciding import BOTH, right_boards
from tests.test_deciding import samples as board_samples
from tests.test_ever import WISHES
from tests.test_factors import KINDS, random_pairs
from tests.test_offers import many_offers
from tests.test_orders import ORDERS
from twocompanies.asking import is_question, is_told_yes, judged, paper_holds, turned_paper, turned_question
from twocompanies.boards import Board
from twocompanies.companies import judge_tangle, tangles
from twocompanies.deciding import judge_boards
from twocompanies.drawing import backwards, straight, upside_down
from twocompanies.errors import BadQuestion
from twocompanies.ever import judge_alike, judge_never
from twocompanies.factors import judge_factors
from twocompanies.offers import judge_offers
from twocompanies.orders import judge_order
from twocompanies.pairings import pairing_backwards, pairing_upside_down, pairings
from twocompanies.plainform import plain_form
from twocompanies.products import products
from twocompanies.wishes import (Wish, one_product, whole, wish_backwards, wish_times, wish_upside_down)
from twocompanies.words import told_board, told_boards

P, Q, R = (one_product(2, *product) for product in products(2))
DRAWN = Board(3, (("meet", 0), ("down", 1, "a"), ("up", 0, (1, 2))))


def never_questions():
    return [("never", wish) for wish in WISHES[:50:3]]


def alike_questions():
    found = [("alike", wish, plain_form(wish)) for wish in WISHES[:50:7]]
    return found + [("alike", one, other) for one in WISHES[:50:9] for other in WISHES[:50:11] if one.size == other.size]


def factors_questions():
    return [("factors", *pair) for pair in random_pairs()[::8]] + [("factors", *own[:2]) for own in KINDS.values()]


def offers_questions():
    return [("offers", *pair) for pair in many_offers()[::9]] + [("offers", Q, ()), ("offers", wish_times((-1, 1), Q), ())]


def boards_questions():
    return [("boards", boards) for boards in board_samples()[::3]]


def order_questions():
    found = [("order", 2, one, other) for one in products(2) for other in products(2)]
    return found + [("order", size, one, other) for size in (3, 4) for one in products(size)[::5] for other in products(size)[::6]]


def tangle_questions():
    found = [("tangle", DRAWN, (0, 1), (0, 2), tangle) for tangle in tangles(DRAWN, (0, 1), (0, 2))]
    return found + [("tangle", M, (0, 1), (0, 1), tangle) for tangle in tangles(M, (0, 1), (0, 1))] + [("tangle", A, (), (), ())]


def turnable_questions():
    return never_questions() + alike_questions() + factors_questions() + offers_questions() + boards_questions()


def all_questions():
    return turnable_questions() + order_questions() + tangle_questions()


def right(question, thing):
    """Whether a value is a paper of a question."""
    kind = question[0]
    if kind == "boards":
        return right_boards(question[1], thing)
    if kind == "order":
        return ORDERS[question[1]].right(question[2], question[3], thing)
    if kind == "tangle":
        return slow.strict_tuple(thing) == slow.strict_tuple(judge_tangle(*question[1:]))
    return {"never": slow.right_never, "alike": slow.right_alike, "factors": slow.right_factors, "offers": slow.right_offers}[kind](*question[1:], thing)


BAD_QUESTIONS = [
    (), ("never",), ("never", None), ("never", P, P), ["never", P], ("never", M), ("alike", P), ("alike", P, whole(3)), ("alike", P, None), ("factors", P, whole(3)),
    ("factors", P), ("factors", P, Q, R), ("offers", Q, [(P, (1, 1))]), ("offers", Q, ((P, (-1, 1)),)), ("offers", Q, ((whole(3), (1, 1)),)),
    ("offers", Q, ((P, (1, 1)), (whole(3), (1, 1)))), ("offers", M, ()), ("offers", Q), ("order", 2, ((0,), (0,))), ("order", 2, ((0,), (0,)), ((0,), (2,))),
    ("order", 7, ((0,), (0,)), ((0,), (0,))), ("order", True, ((0,), (0,)), ((0,), (0,))), ("order", 0, ((0,), (0,)), ((0,), (0,))),
    ("order", 2, ((0,), (0,)), ((False,), (0,))), ("order", 2, ((1,), (0,)), ((0,), (0,))), ("boards", ()), ("boards", (A,)), ("boards", (M, straight(3))),
    ("boards", [M]), ("boards", M), ("boards", (M, None)), ("tangle", M, (0, 1), (0, 1), ()), ("tangle", M, (0,), (0, 1), ((0, 0),)),
    ("tangle", M, (0,), (0,), ((0, 1),)), ("tangle", M, (0,), (1,), [(0, 1)]), ("tangle", M, [0], (1,), ((0, 1),)), ("tangle", P, (0,), (1,), ((0, 1),)),
    ("tangle", M, (True,), (0,), ((1, 0),)), ("tangle", M, (0,), (1,), ((False, True),)), ("Never", P), ("", P), (None, P), (["never"], P), ("at least", P, P), P, M,
]


class Questions(CompanyTest):
    def test_is_question(self):
        for question in all_questions():
            self.gives(True, is_question, question)
            self.gives(False, is_question, list(question))
            self.gives(False, is_question, question + (None,))
            self.gives(False, is_question, question[:-1])
        for thing in BAD_QUESTIONS + odd_things() + random_things(9, 300):
            self.gives(False, is_question, thing)

    def test_questions_beyond_the_limits(self):
        many = tuple(("meet", k % 8) for k in range(60))
        for question in [("boards", (Board(9, many), straight(9))), ("tangle", Board(9, many), (), (), ()), ("never", Wish(6, ())),
                         ("offers", whole(6), ((whole(6), (LONG_NUMBER, 7)),) * 50), ("order", 6, products(6)[0], products(6)[-1])]:
            self.gives(True, is_question, question)

    def test_bad_questions(self):
        for thing in BAD_QUESTIONS + odd_things() + random_things(10, 100):
            for call in (judged, is_told_yes):
                self.raises(BadQuestion(thing), call, thing)
            for upside in (True, False):
                self.raises(BadQuestion(thing), turned_question, thing, upside)
                self.raises(BadQuestion(thing), turned_paper, thing, None, upside)
            self.gives(False, paper_holds, thing, ("never", ()))
            self.gives(False, paper_holds, thing, thing)
        for question in order_questions()[::4] + tangle_questions():
            for upside in (True, False):
                self.raises(BadQuestion(question), turned_question, question, upside)
                self.raises(BadQuestion(question), turned_paper, question, judged(question), upside)

    def test_judged_is_the_paper_of_the_part(self):
        judges = {"never": judge_never, "alike": judge_alike, "factors": judge_factors, "offers": judge_offers, "order": judge_order,
                  "boards": judge_boards, "tangle": judge_tangle}
        for question in all_questions():
            paper = judges[question[0]](*question[1:])
            self.gives(paper, judged, question)
            self.gives(True, paper_holds, question, paper)
            self.assertTrue(right(question, paper))

    def test_is_told_yes(self):
        yes = {"never": "never", "alike": "alike", "factors": "stretch", "offers": "least", "order": "below", "boards": "decide", "tangle": "company"}
        found = {}
        for question in all_questions():
            wanted = judged(question)[0] == yes[question[0]]
            found.setdefault(question[0], set()).add(wanted)
            self.gives(wanted, is_told_yes, question)
        self.assertEqual(found, {kind: {True, False} for kind in yes})
        # The word "below" is of the first kind for products, but not for wishes.
        self.gives(True, is_told_yes, ("order", 2, products(2)[1], products(2)[0]))
        self.gives(False, is_told_yes, ("never", wish_times((-1, 1), P)))

    def test_papers_of_other_questions(self):
        questions = [questions()[0] for questions in (never_questions, alike_questions, factors_questions, offers_questions, boards_questions, order_questions,
                                                      tangle_questions)]
        papers = [judged(question) for question in questions] + [("never", ()), ("alike", ()), ("stretch", None, None), ("least", (), (0, 1), ()), ("company",)]
        for question in questions:
            for paper in papers:
                self.gives(right(question, paper), paper_holds, question, paper)

    def test_changed_papers(self):
        for seed, question in enumerate(all_questions()[::4]):
            for thing in some_changed(judged(question), seed, 30):
                self.gives(right(question, thing), paper_holds, question, thing)

    def test_changed_questions(self):
        for seed, question in enumerate(all_questions()[::5]):
            paper = judged(question)
            for thing in some_changed(question, seed, 30):
                if not is_question(thing):
                    self.gives(False, paper_holds, thing, paper)
                    self.raises(BadQuestion(thing), judged, thing)
                elif thing[0] != "order" or thing[1] in ORDERS:
                    self.gives(True, paper_holds, thing, judged(thing))
                    self.assertTrue(right(thing, judged(thing)))

    def test_any_values_as_papers(self):
        questions = all_questions()[::12]
        for thing in odd_things() + random_things(11, 100):
            for question in questions:
                self.gives(right(question, thing), paper_holds, question, thing)

    def test_by_name(self):
        question = ("never", P)
        self.assertTrue(is_question(thing=question))
        self.assertTrue(paper_holds(thing=judged(question=question), question=question))
        self.assertTrue(is_told_yes(question=question))
        self.assertEqual(turned_question(upside=True, question=question), ("never", P))
        self.assertEqual(turned_paper(upside=False, paper=judged(question), question=question), judged(question))


class Turned(CompanyTest):
    def test_turned_questions(self):
        for question in turnable_questions():
            for upside, wish_turned, board_turned in [(True, wish_upside_down, upside_down), (False, wish_backwards, backwards)]:
                if question[0] == "boards":
                    wanted = ("boards", tuple(board_turned(board) for board in question[1]))
                elif question[0] == "offers":
                    wanted = ("offers", wish_turned(question[1]), tuple((wish_turned(wish), slow.pair_of(slow.Fraction(*price))) for wish, price in question[2]))
                else:
                    wanted = (question[0],) + tuple(wish_turned(wish) for wish in question[1:])
                self.gives(wanted, turned_question, question, upside)

    def test_told_the_same(self):
        for question in turnable_questions():
            for upside in (True, False):
                turned = turned_question(question, upside)
                self.gives(is_told_yes(question), is_told_yes, turned)
                paper = turned_paper(question, judged(question), upside)
                self.gives(True, paper_holds, turned, paper)
                self.assertTrue(right(turned, paper))

    def test_twice(self):
        for question in turnable_questions():
            paper = judged(question)
            for upside in (True, False):
                turned = turned_question(question, upside)
                turned_once = turned_paper(question, paper, upside)
                back = turned_question(turned, upside)
                if question[0] != "offers":
                    self.gives(question, turned_question, turned, upside)
                self.gives(turned, turned_question, back, upside)
                self.gives(paper, turned_paper, turned, turned_once, upside)
            both = turned_question(turned_question(question, True), False)
            self.gives(both, turned_question, turned_question(question, False), True)

    def test_numbers_without_divisors(self):
        question = ("offers", Q, ((P, (6, 2)), (R, (4, 4))))
        for upside in (True, False):
            self.gives(("offers", Q, ((P, (3, 1)), (R, (1, 1)))), turned_question, question, upside)
            paper = ("least", ((2, 2), (0, 3)), (9, 3), ((pairings(2)[0], (12, 4)),))
            self.gives(("least", ((1, 1), (0, 1)), (3, 1), ((pairings(2)[0], (3, 1)),)), turned_paper, question, paper, upside)
            paper = ("stretch", None, (5, 5))
            self.gives(("stretch", None, (1, 1)), turned_paper, ("factors", P, Q), paper, upside)
            one, other, paper = KINDS["both ends"]
            self.gives(paper, turned_paper, ("factors", one, other), ("stretch", (-9, 3), (4, 2)), upside)
        for question in never_questions() + alike_questions():
            paper = judged(question)
            if paper[0] in ("never", "alike"):
                given = (paper[0], undivided_masses(paper[1]))
                self.gives(turned_paper(question, paper, True), turned_paper, question, given, True)
        self.gives(("uncovered", ((pairings(2)[0], (1, 2)),)), turned_paper, ("offers", Q, ((R, (1, 1)),)), ("uncovered", ((pairings(2)[0], (3, 6)),)), True)
        self.assertEqual(undivided((1, 2)), (6, 12))

    def test_masses_are_sorted_anew(self):
        moved = 0
        for wish in [one_product(4, rows, columns) for rows, columns in products(4)]:
            for upside, turn in [(True, pairing_upside_down), (False, pairing_backwards)]:
                paper = judged(("never", wish))
                wanted = [(turn(pairing), number) for pairing, number in paper[1]]
                moved += wanted != sorted(wanted)
                self.gives(("never", tuple(sorted(wanted))), turned_paper, ("never", wish), paper, upside)
        self.assertGreater(moved, 3)

    def test_numbers_of_deciding_boards(self):
        for size in (2, 3, 4):
            question = ("boards", told_boards(size)[::-1])
            for upside, turn in [(True, pairing_upside_down), (False, pairing_backwards)]:
                numbers = dict(zip(pairings(size), judged(question)[1]))
                wanted = ("decide", tuple(numbers[turn(pairing)] for pairing in pairings(size)))
                self.gives(wanted, turned_paper, question, judged(question), upside)
        # Any paper is turned, not only the one with the least numbers.
        boards = (M, straight(2), M)
        self.gives(("decide", (2, 1)), turned_paper, ("boards", boards), ("decide", (2, 1)), True)

    def test_boards_in_papers(self):
        wish = wish_times((-1, 1), one_product(3, (0,), (0,)))
        board = Board(3, (("down", 0, (1, 2)), ("up", 1, (2, 1)), ("pass", 2, (3, 1))))
        self.assertTrue(paper_holds(("never", wish), ("below", board)))
        self.gives(("below", upside_down(board)), turned_paper, ("never", wish), ("below", board), True)
        self.gives(("below", backwards(board)), turned_paper, ("never", wish), ("below", board), False)
        self.gives(("parted", backwards(board)), turned_paper, ("alike", wish, whole(3)), ("parted", board), False)
        one, other, paper = KINDS["by two boards"]
        double = Board(2, (("meet", 0), ("pass", 1, (2, 1))))
        self.gives(("none", (upside_down(double), straight(2))), turned_paper, ("factors", one, other), ("none", (double, straight(2))), True)
        self.assertEqual(paper[0], "none")

    def test_wishes_that_mislead(self):
        boards = (told_board(pairings(3)[2]), straight(3))
        paper = judged(("boards", boards))
        self.gives(("misled", wish_upside_down(paper[1])), turned_paper, ("boards", boards), paper, True)
        self.gives(("misled", wish_backwards(paper[1])), turned_paper, ("boards", boards), paper, False)

    def test_bad_papers(self):
        for question in turnable_questions()[::4]:
            for upside in (True, False):
                for thing in odd_things()[::5] + [("never", None), judged(("boards", (BOTH,)))]:
                    if not right(question, thing):
                        self.raises(BadQuestion(thing), turned_paper, question, thing, upside)
        for seed, question in enumerate(turnable_questions()[::6]):
            for thing in some_changed(judged(question), seed, 10):
                if not right(question, thing):
                    self.raises(BadQuestion(thing), turned_paper, question, thing, True)
                else:
                    self.gives(True, paper_holds, turned_question(question, True), turned_paper(question, thing, True))

    def test_random_boards_decide_no_more_when_turned(self):
        for seed in range(10):
            boards = tuple(random_board(100 * seed + at, 3, 5) for at in range(6))
            for upside in (True, False):
                self.gives(is_told_yes(("boards", boards)), is_told_yes, turned_question(("boards", boards), upside))
