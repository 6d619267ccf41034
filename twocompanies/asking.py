"""Questions of all kinds, and their papers."""

from twocompanies.boards import Board
from twocompanies.companies import judge_tangle, tangle_holds
from twocompanies.deciding import are_boards, boards_holds, judge_boards
from twocompanies.errors import BadQuestion
from twocompanies.ever import alike_holds, judge_alike, judge_never, never_holds
from twocompanies.factors import factors_holds, judge_factors
from twocompanies.mingled import is_tangle
from twocompanies.offers import are_offers, have_size, judge_offers, offers_holds
from twocompanies.orders import judge_order, order_holds
from twocompanies.pairings import GREATEST_SIZE
from twocompanies.products import is_product
from twocompanies.turning import turned_boards, turned_by_kind, turned_offers, turned_wish
from twocompanies.values import are_sets, is_size, kind_of
from twocompanies.wishes import Wish

LENGTHS = {"never": 2, "alike": 3, "factors": 3, "offers": 3, "order": 4, "boards": 2, "tangle": 5}
YES = {"never": "never", "alike": "alike", "factors": "stretch", "offers": "least", "order": "below",
       "boards": "decide", "tangle": "company"}
TURNED = ("never", "alike", "factors", "offers", "boards")


def are_two_wishes(one, other):
    """Whether any two values are wishes of one size."""
    return isinstance(one, Wish) and isinstance(other, Wish) and one.size == other.size


def are_target_and_offers(target, offers):
    """Whether any two values are a wish and offers of its size."""
    return isinstance(target, Wish) and are_offers(offers) and have_size(offers, target.size)


def are_two_products(size, one, other):
    """Whether any three values are a size of wishes and two products of this size."""
    return is_size(size, GREATEST_SIZE) and is_product(size, one) and is_product(size, other)


def are_tangle_and_ends(board, rows, columns, tangle):
    """Whether any four values are a board, two sets and a tangle from one to the other."""
    return isinstance(board, Board) and are_sets(board.size, rows, columns) and is_tangle(board, rows, columns, tangle)


def is_question(thing):
    """Whether any value is a question."""
    kind = kind_of(thing)
    if kind is None or LENGTHS.get(kind) != len(thing):
        return False
    if kind == "never":
        return isinstance(thing[1], Wish)
    if kind in ("alike", "factors"):
        return are_two_wishes(thing[1], thing[2])
    if kind == "offers":
        return are_target_and_offers(thing[1], thing[2])
    if kind == "order":
        return are_two_products(thing[1], thing[2], thing[3])
    if kind == "boards":
        return are_boards(thing[1])
    return are_tangle_and_ends(thing[1], thing[2], thing[3], thing[4])


def judged(question):
    """A paper of a question."""
    if not is_question(question):
        raise BadQuestion(question)
    kind = question[0]
    if kind == "never":
        return judge_never(question[1])
    if kind == "alike":
        return judge_alike(question[1], question[2])
    if kind == "factors":
        return judge_factors(question[1], question[2])
    if kind == "offers":
        return judge_offers(question[1], question[2])
    if kind == "order":
        return judge_order(question[1], question[2], question[3])
    if kind == "boards":
        return judge_boards(question[1])
    return judge_tangle(question[1], question[2], question[3], question[4])


def paper_holds(question, thing):
    """Whether any value is a paper of any value, which must be a question for this."""
    if not is_question(question):
        return False
    kind = question[0]
    if kind == "never":
        return never_holds(question[1], thing)
    if kind == "alike":
        return alike_holds(question[1], question[2], thing)
    if kind == "factors":
        return factors_holds(question[1], question[2], thing)
    if kind == "offers":
        return offers_holds(question[1], question[2], thing)
    if kind == "order":
        return order_holds(question[1], question[2], question[3], thing)
    if kind == "boards":
        return boards_holds(question[1], thing)
    return tangle_holds(question[1], question[2], question[3], question[4], thing)


def is_told_yes(question):
    """Whether the paper of a question is of the first kind."""
    paper = judged(question)
    return paper[0] == YES[question[0]]


def need_turnable(question):
    """Raises BadQuestion for any value that is not a question about wishes or boards."""
    if not is_question(question) or question[0] not in TURNED:
        raise BadQuestion(question)


def turned_question(question, upside):
    """A question about wishes or boards, turned upside down if upside is True, otherwise backwards."""
    need_turnable(question)
    kind = question[0]
    if kind == "never":
        return (kind, turned_wish(question[1], upside))
    if kind == "offers":
        return (kind, turned_wish(question[1], upside), turned_offers(question[2], upside))
    if kind == "boards":
        return (kind, turned_boards(question[1], upside))
    return (kind, turned_wish(question[1], upside), turned_wish(question[2], upside))


def size_asked(question):
    """The size of what a question about wishes or boards is about."""
    return question[1][0].size if question[0] == "boards" else question[1].size


def turned_paper(question, paper, upside):
    """A paper of a question about wishes or boards, turned as the question is."""
    need_turnable(question)
    if not paper_holds(question, paper):
        raise BadQuestion(paper)
    return turned_by_kind(paper, size_asked(question), upside)
