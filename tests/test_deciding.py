"""Boards that decide [10.3], spare boards [10.4], and deciding.py."""

import random
import time

from tests import slow
from tests.anything import random_things, some_changed
from tests.helpers import CompanyTest
from tests.samples import A, M, odd_things, random_board, random_wish
from tests.test_covers import shares_of
from twocompanies.boards import Board
from twocompanies.coordinates import coordinates
from twocompanies.deciding import boards_holds, do_decide, judge_boards, lacking, spare
from twocompanies.drawing import behind, straight
from twocompanies.errors import BadBoards, OtherSizes
from twocompanies.ever import is_never_below
from twocompanies.pairings import pairings
from twocompanies.plainform import wish_with
from twocompanies.wishes import Wish, filled_worth, whole, wish_times
from twocompanies.words import told_board, told_boards

OPEN, NEST = pairings(2)
BOTH = Board(2, (("down", 0, (1, 1)), ("up", 0, (1, 1))))
NOTHING = Board(2, (("pass", 0, (0, 1)),))
LETTER = Board(2, (("pass", 1, "a"),))


def heavier(board, seed):
    """A board with the same pairings drawn, but greater shares."""
    source = random.Random(seed)
    return behind(board, Board(board.size, (("pass", source.randrange(board.size), (source.randint(1, 9), source.randint(1, 9))),)))


def told_pairing(board):
    """The only pairing in which a board has a share above zero, by its covers."""
    found = [pairing for pairing, some in shares_of(board).items() if some != ()]
    return found[0] if len(found) == 1 else None


def right_boards(boards, thing):
    """Whether a value is a paper of valid boards."""
    size = boards[0].size
    if slow.is_paper(thing, "decide", 2):
        if type(thing[1]) is not tuple or not all(type(number) is int and 0 <= number < len(boards) for number in thing[1]):
            return False
        return [told_pairing(boards[number]) for number in thing[1]] == list(pairings(size))
    if not slow.is_paper(thing, "misled", 2) or type(thing[1]) is not Wish or thing[1].size != size:
        return False
    return min(slow.coordinates(thing[1])) < 0 and all(slow.worth(thing[1], board) >= 0 for board in boards)


def samples():
    """Tuples of filled boards, some of which decide."""
    found = [(M, straight(2)), (straight(2),), (M,), (BOTH,), (NOTHING,), (BOTH, NOTHING, M), (straight(2), M, BOTH, M), (straight(1),), (Board(1, (("pass", 0, (0, 1)),)),),
             (Board(1, (("pass", 0, (3, 7)),)), straight(1))]
    for size in (1, 2, 3, 4):
        boards = told_boards(size)
        found += [boards, boards[::-1], boards[1:] or boards, boards[:-1] + (boards[0],), tuple(heavier(board, at) for at, board in enumerate(boards)) + boards[:3]]
    for seed in range(30):
        source = random.Random(seed)
        size = 2 + seed % 3
        boards = [random_board(100 * seed + at, size, source.randint(0, 6)) for at in range(source.randint(1, 5))]
        boards += source.sample(told_boards(size), source.randint(0, len(pairings(size))))
        source.shuffle(boards)
        found.append(tuple(boards))
    return [boards for boards in found if boards]


class Deciding(CompanyTest):
    def test_examples(self):
        self.gives(("decide", (0, 1)), judge_boards, (M, straight(2)))
        self.gives((OPEN, NEST), lacking, (BOTH,))
        wish = Wish.read("wish 2\n-1 0 | 1")
        self.gives(True, boards_holds, (straight(2),), ("misled", wish))
        paper = judge_boards((straight(2),))
        self.assertEqual(paper[0], "misled")
        self.assertTrue(coordinates(paper[1])[0][0] < 0 <= coordinates(paper[1])[1][0])

    def test_judged(self):
        kinds = {"decide": 0, "misled": 0}
        for boards in samples():
            size = boards[0].size
            told = [told_pairing(board) for board in boards]
            wanted = tuple(pairing for pairing in pairings(size) if pairing not in told)
            self.gives(wanted, lacking, boards)
            self.gives(wanted == (), do_decide, boards)
            paper = judge_boards(boards)
            kinds[paper[0]] += 1
            self.assertEqual(paper[0], "misled" if wanted else "decide")
            self.assertTrue(right_boards(boards, paper))
            self.gives(True, boards_holds, boards, paper)
            self.gives(paper, judge_boards, boards)
            without = tuple(number for number in range(len(boards))
                            if all(told[:number].count(own) + told[number + 1:].count(own) > 0 for own in pairings(size)))
            self.gives(without if wanted == () else (), spare, boards)
            for number in range(len(boards)):
                rest = boards[:number] + boards[number + 1:]
                if wanted == () and rest:
                    self.gives(number in without, do_decide, rest)
        self.assertGreater(min(kinds.values()), 10)

    def test_spare(self):
        self.gives((), spare, (M, straight(2)))
        self.gives((2,), spare, (M, straight(2), BOTH))
        self.gives((2, 3), spare, (M, straight(2), NOTHING, BOTH))
        self.gives((0, 2), spare, (M, straight(2), M))
        self.gives((0, 1, 2, 3), spare, (M, straight(2), M, straight(2)))
        self.gives((), spare, (M, BOTH, M))
        self.gives((), spare, (straight(1),))
        self.gives((0, 1), spare, (straight(1), straight(1)))

    def test_wishes_that_mislead(self):
        """Great and small shares; boards whose shares are all zero show nothing."""
        great = Board(2, (("down", 0, (999983, 1)), ("up", 0, (999979, 2))))
        small = Board(2, (("down", 0, (1, 999983)), ("up", 0, (1, 999979))))
        for boards in [(great,), (small,), (great, small), (great, small, M), (small, NOTHING, straight(2)), (NOTHING,), (great, straight(2), BOTH)]:
            paper = judge_boards(boards)
            self.assertTrue(right_boards(boards, paper))
            self.gives(True, boards_holds, boards, paper)
            for board in boards:
                self.assertGreaterEqual(filled_worth(paper[1], board)[0], 0)
            self.assertFalse(is_never_below(paper[1]))

    def test_any_wish_misleads(self):
        for boards in samples()[::2]:
            size = boards[0].size
            for seed in range(6):
                wish = random_wish(seed, size, 4)
                self.gives(right_boards(boards, ("misled", wish)), boards_holds, boards, ("misled", wish))
            for wish in [Wish(size, ()), whole(size), wish_times((-1, 1), whole(size)), whole(size % 6 + 1)]:
                self.gives(right_boards(boards, ("misled", wish)), boards_holds, boards, ("misled", wish))
        self.gives(True, boards_holds, (M,), ("misled", wish_times((-1, 1), whole(2))))
        self.gives(False, boards_holds, (M,), ("misled", wish_with(2, ((-1, 9), (1, 1)))))
        self.gives(False, boards_holds, (M,), ("misled", wish_with(2, ((0, 1), (1, 1)))))
        # A wish of another size misleads nobody, though it is below zero somewhere.
        for size in (1, 3, 6):
            self.gives(False, boards_holds, (M,), ("misled", wish_times((-1, 1), whole(size))))
            self.gives(False, boards_holds, (NOTHING,), ("misled", wish_times((-1, 1), whole(size))))

    def test_numbers(self):
        boards = (straight(2), M, BOTH, M)
        for one in range(-1, 5):
            for other in range(-1, 5):
                self.gives(one in (1, 3) and other == 0, boards_holds, boards, ("decide", (one, other)))
        for thing in [(True, 0), (1, False), [1, 0], (1,), (1, 0, 0), (), None, ("1", "0"), {1: 0}, ((1, 1), (0, 1))]:
            self.gives(False, boards_holds, boards, ("decide", thing))
        self.gives(True, boards_holds, (straight(1),), ("decide", (0,)))
        self.gives(False, boards_holds, (straight(1),), ("decide", (False,)))

    def test_changed_papers(self):
        for seed, boards in enumerate(samples()[::2]):
            for thing in some_changed(judge_boards(boards), seed, 40):
                self.gives(right_boards(boards, thing), boards_holds, boards, thing)

    def test_errors_in_their_order(self):
        for call in (do_decide, judge_boards, lacking, spare):
            for thing in odd_things() + [()]:
                if not isinstance(thing, tuple) or thing == ():
                    self.raises(BadBoards(-1), call, thing)
                if not isinstance(thing, Board):
                    self.raises(BadBoards(0), call, (thing, M))
                    self.raises(BadBoards(2), call, (M, straight(3), thing, LETTER))
            for letters in (A, LETTER):
                self.raises(BadBoards(0), call, (letters,))
                self.raises(BadBoards(1), call, (straight(3), letters, M, None))
            self.raises(OtherSizes(), call, (M, straight(3)))
            self.raises(OtherSizes(), call, (straight(1), M, straight(1)))
            self.raises(BadBoards(-1), call, [M])
            self.raises(BadBoards(0), call, ([M],))

    def test_boards_that_are_not_valid(self):
        for boards in [(), [M, straight(2)], (M, straight(3)), (M, LETTER), (A,), M, None, (M, None), "board 2", (whole(2),)]:
            for thing in [("decide", (0, 1)), ("misled", wish_times((-1, 1), whole(2))), ("decide", ()), None]:
                self.gives(False, boards_holds, boards, thing)
        for thing in odd_things() + random_things(8, 100):
            boards = thing if isinstance(thing, tuple) else (thing,)
            if not all(isinstance(board, Board) for board in boards):
                self.gives(False, boards_holds, thing, ("decide", (0, 1)))
                self.gives(False, boards_holds, thing, ("misled", wish_times((-1, 1), whole(2))))
            for own in (thing, ("decide", thing), ("decide", (0, thing)), ("misled", thing)):
                self.gives(right_boards((M, straight(2)), own), boards_holds, (M, straight(2)), own)
                self.gives(right_boards((M,), own), boards_holds, (M,), own)

    def test_told_boards_decide(self):
        for size in (1, 2, 3, 4):
            self.gives(True, do_decide, told_boards(size))
            self.gives(("decide", tuple(range(len(pairings(size))))), judge_boards, told_boards(size))
            self.gives((), spare, told_boards(size))
            for at, pairing in enumerate(pairings(size)):
                rest = told_boards(size)[:at] + told_boards(size)[at + 1:]
                if rest:
                    self.gives((pairing,), lacking, rest)

    def test_never_below_where_boards_decide(self):
        boards = tuple(heavier(told_board(pairing), at) for at, pairing in enumerate(pairings(3)))
        self.assertTrue(do_decide(boards))
        for seed in range(40):
            wish = random_wish(seed, 3, 3)
            self.assertEqual(all(filled_worth(wish, board)[0] >= 0 for board in boards), is_never_below(wish))

    def test_at_the_limits(self):
        start = time.monotonic()
        for seed in range(10):
            boards = tuple(random_board(100 * seed + at, 4, 8) for at in range(20))
            self.gives(True, boards_holds, boards, judge_boards(boards))
            lacking(boards)
            spare(boards)
        self.assertLess(time.monotonic() - start, 20)

    def test_by_name(self):
        boards = (M, straight(2))
        self.assertTrue(do_decide(boards=boards))
        self.assertTrue(boards_holds(thing=judge_boards(boards=boards), boards=boards))
        self.assertEqual((lacking(boards=boards), spare(boards=boards)), ((), ()))
