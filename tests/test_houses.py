"""Houses [12.1], changes [12.2], undone [12.3], and the methods of House but for texts."""

import copy
import random

from tests import slow
from tests.anything import random_things
from tests.helpers import CompanyTest, strict
from tests.samples import A, M, odd_things, random_board, random_wish
from tests.test_products import BAD_PRODUCTS
from tests.test_wishes import BAD_NUMBERS
from tests.test_words import BAD_SIZES
from twocompanies.boards import Board, filled
from twocompanies.consoles import Console
from twocompanies.coordinates import coordinates
from twocompanies.drawing import straight
from twocompanies.errors import (BadChange, BadFilling, BadName, BadPiece, BadPromise, BadProduct, BadParts, BadSize, CompanyError, InUse, NameTaken,
                                 NoName, NoPromise, NothingToUndo, OtherSizes, Unkept)
from twocompanies.ever import judge_alike, judge_never
from twocompanies.houses import House
from twocompanies.pairings import pairings
from twocompanies.products import products
from twocompanies.shares import drawn, shares
from twocompanies.wishes import (Wish, filled_worth, one_product, whole, wish_minus, wish_of, wish_plus, wish_times, worth)
from twocompanies.words import told_board

OPEN, NEST = pairings(2)
PRODUCTS = products(2)
P, Q, R = (one_product(2, *product) for product in PRODUCTS)
BAD_NAMES = [None, True, 0, "", "A", "a1", "a b", "abcdefghijklm", " a", "a\n", ["a"], ("a",), {"a": 1}, "a_", M, P, [], ()]
NOT_NUMBERS = BAD_NUMBERS


def sample_house():
    """A house of size 2 with three wishes, two boards, and a promise."""
    house = House(2)
    house.deal((("wish", "w", P), ("wish", "v", Q), ("wish", "d", R), ("board", "a", A), ("board", "m", M)))
    house.change(("promise", ("at least", "w", (1, 1), "v")))
    return house


def state(house):
    """All that can be seen of a house."""
    boards = [(name, house.board(name)) for name in house.names() if name in house.stock.boards]
    wishes = [(name, house.wish(name)) for name in house.names() if name in house.stock.wishes]
    return strict((house.size, house.names(), tuple(boards), tuple(wishes), house.promises(), house.deals(), str(house)))


class HouseTest(CompanyTest):
    def refuses(self, wanted, house, change):
        """Checks that a change is refused with this error, alone and in a deal, and that the house stays as it is."""
        before = state(house)
        self.raises(wanted, house.change, change)
        first = ("wish", "zzzz", Wish(house.size, ()))
        for call in (house.deal, house.would):
            self.raises(BadChange(0), call, (change,))
            self.raises(BadChange(1), call, (first, change, None))
        self.assertEqual(state(house), before)

    def breaks(self, promise, fault, house, *changes):
        """Checks that changes break a promise, whichever way they are made, and that the house stays as it is."""
        before = state(house)
        self.raises(Unkept(promise, fault), house.deal, changes)
        self.gives((promise, fault), house.would, changes)
        if len(changes) == 1:
            self.raises(Unkept(promise, fault), house.change, changes[0])
        self.assertEqual(state(house), before)


class Houses(HouseTest):
    def test_examples(self):
        house = House(2)
        house.change(("wish", "w", P))
        house.change(("wish", "v", Q))
        self.gives(None, house.change, ("promise", ("at least", "w", (1, 1), "v")))
        fault = ("below", told_board(OPEN))
        self.breaks(("at least", "w", (1, 1), "v"), fault, house, ("part", "w", PRODUCTS[0], (-1, 2)))
        deal = (("part", "w", PRODUCTS[0], (-1, 1)), ("part", "w", PRODUCTS[0], (1, 1)))
        self.gives(None, house.would, deal)
        self.gives(None, house.deal, deal)
        self.gives(deal, lambda: house.deals()[-1])
        self.gives(P, house.wish, "w")

    def test_sizes(self):
        for size in range(1, 7):
            house = House(size)
            self.assertEqual((house.size, house.names(), house.promises(), house.deals()), (size, (), (), ()))
            self.gives(f"house {size}", str, house)
        for size in BAD_SIZES:
            self.raises(BadSize(size), House, size)
        for thing in odd_things():
            self.raises(BadSize(thing), House, thing)
        self.assertEqual(House(size=3), House(3))

    def test_names_and_things(self):
        house = sample_house()
        self.gives(("a", "d", "m", "v", "w"), house.names)
        self.gives(A, house.board, "a")
        self.gives(Q, house.wish, "v")
        for thing in odd_things() + BAD_NAMES + ["zz", "ab"]:
            if thing != "a":
                self.raises(NoName(thing), house.board, thing)
            self.raises(NoName(thing), house.wish, thing)
        self.raises(NoName("w"), house.board, "w")

    def test_equal_houses(self):
        one, other = sample_house(), sample_house()
        self.assertTrue(one == other and not one != other)
        other.deal(())
        self.assertEqual(one, other)
        other.change(("drop", "m"))
        self.assertTrue(one != other and not one == other)
        other.undo()
        self.assertEqual(one, other)
        for change in [("drop", "d"), ("rename", "d", "e"), ("wish", "d", Wish(2, ())), ("board", "m", straight(2)), ("release", ("at least", "w", (1, 1), "v")),
                       ("promise", ("never", "d")), ("board", "mm", M), ("rename", "w", "x")]:
            other = sample_house()
            other.change(change)
            self.assertNotEqual(one, other)
            other.undo()
            self.assertEqual(one, other)
        one, other = sample_house(), sample_house()
        for house, kinds in [(one, ("never", "d", "v")), (other, ("never", "v", "d"))]:
            for name in kinds[1:]:
                house.change(("promise", ("never", name)))
        self.assertNotEqual(one, other)
        self.assertNotEqual(House(2), House(3))
        for thing in odd_things() + [House(3), Console(House(5)), M, P, (5,), "house 5", None]:
            self.assertFalse(House(5) == thing)
            self.assertTrue(House(5) != thing)
        board, wish = House(2), House(2)
        board.change(("board", "x", M))
        wish.change(("wish", "x", P))
        self.assertNotEqual(board, wish)

    def test_copies(self):
        house = sample_house()
        before = state(house)
        other = house.copy()
        self.assertEqual(house, other)
        self.assertEqual(state(other), before)
        other.deal((("drop", "m"), ("wish", "u", P), ("promise", ("never", "u")), ("part", "d", PRODUCTS[0], (5, 1))))
        self.assertEqual(state(house), before)
        self.assertNotEqual(house, other)
        after = state(other)
        house.change(("rename", "a", "b"))
        house.undo()
        house.undo()
        house.undo()
        self.raises(NothingToUndo(), house.undo)
        self.assertEqual(house.names(), ())
        self.assertEqual(state(other), after)
        other.undo()
        self.assertEqual(state(other), before)
        self.assertEqual(len(other.deals()), 2)
        other.undo()
        other.undo()
        self.raises(NothingToUndo(), other.undo)
        self.assertEqual(other, House(2))

    def test_undo(self):
        house = House(2)
        self.raises(NothingToUndo(), house.undo)
        states = [state(house)]
        deals = [(("wish", "w", P),), (("board", "b", A), ("wish", "v", Q)), (), (("promise", ("never", "w")),), (("rename", "w", "x"), ("drop", "v")),
                 (("part", "x", PRODUCTS[1], (2, 4)), ("fill", "b", (("a", (3, 6)),))), (("release", ("never", "x")), ("drop", "x")), (("wish", "x", R),)]
        for number, deal in enumerate(deals):
            self.gives(None, house.deal, deal)
            self.gives(tuple(deals[:number + 1]), house.deals)
            states.append(state(house))
        while len(states) > 1:
            self.assertEqual(state(house), states.pop())
            self.gives(None, house.undo)
        self.assertEqual(state(house), states[0])
        self.raises(NothingToUndo(), house.undo)
        self.assertEqual(house, House(2))

    def test_deals_are_returned_as_they_were_passed(self):
        house = sample_house()
        deal = (("part", "w", PRODUCTS[0], (4, 8)), ("promise", ("at least", "w", (3, 3), "v")), ("weigh", "a", 1, (6, 4)))
        house.deal(deal[:1])
        self.raises(BadChange(0), house.deal, deal[1:])
        house.deal((("release", ("at least", "w", (5, 5), "v")),) + deal[1:])
        self.gives((deal[:1], (("release", ("at least", "w", (5, 5), "v")),) + deal[1:]), lambda: house.deals()[-2:])
        self.gives((("at least", "w", (1, 1), "v"),), house.promises)
        house.change(("fill", "a", (("a", (9, 6)), ("b", (0, 4)))))
        self.gives(((("fill", "a", (("a", (9, 6)), ("b", (0, 4)))),),), lambda: house.deals()[-1:])
        self.gives((("down", 0, (3, 2)), ("up", 0, (3, 2))), lambda: house.board("a").pieces)

    def test_worth_shares_coordinates(self):
        house = sample_house()
        for name in ("w", "v", "d"):
            for board in ("a", "m"):
                self.gives(worth(house.wish(name), house.board(board)), house.worth, name, board)
            self.gives(coordinates(house.wish(name)), house.coordinates, name)
        self.gives(shares(A), house.shares, "a")
        self.raises(NoName("x"), house.worth, "x", "y")
        self.raises(NoName("y"), house.worth, "w", "y")
        self.raises(NoName("v"), house.worth, "w", "v")
        self.raises(NoName("a"), house.worth, "a", "w")
        for thing in odd_things() + BAD_NAMES:
            self.raises(NoName(thing), house.coordinates, thing)
            self.raises(NoName(thing), house.worth, thing, None)
            if thing != "a":
                self.raises(NoName(thing), house.shares, thing)
                self.raises(NoName(thing), house.worth, "w", thing)
        self.assertEqual(house.worth(board="a", wish="w"), worth(P, A))

    def test_what_is_no_deal(self):
        house = sample_house()
        before = state(house)
        for thing in odd_things() + [None, [], [("drop", "m")], "drop m", {}]:
            if not isinstance(thing, tuple):
                self.raises(BadChange(-1), house.deal, thing)
                self.raises(BadChange(-1), house.would, thing)
        self.assertEqual(state(house), before)

    def test_first_bad_change(self):
        house = sample_house()
        good = ("part", "w", PRODUCTS[0], (1, 1))
        for bad in [None, ("drop", "q"), ("drop", "w"), ["drop", "m"], ("drop",)]:
            self.raises(BadChange(2), house.deal, (good, ("drop", "m"), bad, good, None))
            self.raises(BadChange(2), house.would, (good, ("drop", "m"), bad, good, None))
        # Each change is looked at as the ones before it leave the house.
        self.raises(BadChange(1), house.deal, (("drop", "m"), ("drop", "m")))
        self.raises(BadChange(1), house.deal, (("rename", "w", "x"), ("part", "w", PRODUCTS[0], (1, 1))))
        self.gives(None, house.would, (("rename", "w", "x"), ("part", "x", PRODUCTS[0], (1, 1)), ("rename", "v", "w")))
        # A bad change comes ahead of a promise that is not kept.
        self.raises(BadChange(1), house.deal, (("part", "w", PRODUCTS[0], (-9, 1)), None))
        self.assertEqual(len(house.deals()), 2)

    def test_would_changes_nothing(self):
        house = sample_house()
        before = state(house)
        for changes in [(), (("drop", "m"),), (("part", "w", PRODUCTS[0], (-9, 1)),), (("wish", "n", P), ("promise", ("never", "n")))]:
            house.would(changes)
            self.assertEqual(state(house), before)


class Changes(HouseTest):
    def test_what_is_no_change(self):
        house = sample_house()
        bad = [None, (), [], ("drop",), ("drop", "m", "m"), ["drop", "m"], ("Drop", "m"), ("", "m"), (None, "m"), (["drop"], "m"), ("board", "b"), ("board", "b", P),
               ("board", "b", None), ("board", None, "board 2"), ("board", "b", M, M), ("wish", "b", M), ("wish", "b", [P]), ("wish", "b"), ("wish", None, (2, ())),
               ("rename", "m"), ("insert", "m", 0), ("remove", "m"), ("remove", "m", 0, 0), ("weigh", "a", 0), ("fill", "a"), ("fill", "a", (), ()), ("part", "w", PRODUCTS[0]),
               ("promise",), ("promise", "never", "w"), ("release",), ("release", ("never", "w"), 0), "drop m", ("undo",), ("at least", "w", (1, 1), "v"), M]
        for change in bad + odd_things():
            self.refuses(BadChange(0), house, change)
        for change in random_things(12, 300):
            self.refuses(BadChange(0), house, change)

    def test_put_things(self):
        house = sample_house()
        self.gives(None, house.change, ("board", "a", straight(2)))
        self.gives(straight(2), house.board, "a")
        self.gives(None, house.change, ("board", "abcdefghijkl", A))
        self.gives(None, house.change, ("wish", "d", Wish(2, ())))
        self.gives(Wish(2, ()), house.wish, "d")
        for name in BAD_NAMES:
            self.refuses(BadName(name), house, ("board", name, M))
            self.refuses(BadName(name), house, ("wish", name, P))
            self.refuses(BadName(name), house, ("board", name, straight(3)))
        for name in ("w", "v", "d"):
            self.refuses(NameTaken(name), house, ("board", name, M))
            self.refuses(NameTaken(name), house, ("board", name, straight(3)))
        for name in ("a", "m"):
            self.refuses(NameTaken(name), house, ("wish", name, P))
            self.refuses(NameTaken(name), house, ("wish", name, whole(3)))
        self.refuses(OtherSizes(), house, ("board", "n", straight(3)))
        self.refuses(OtherSizes(), house, ("board", "m", straight(1)))
        self.refuses(OtherSizes(), house, ("wish", "n", whole(1)))
        self.refuses(OtherSizes(), house, ("wish", "w", whole(6)))
        for name in ("board", "wish", "never", "atleast", "house", "names", "end", "do"):
            house.change(("wish", name, P))
            self.gives(P, house.wish, name)

    def test_drop(self):
        house = sample_house()
        for thing in odd_things() + BAD_NAMES + ["zz"]:
            if thing != "a":
                self.refuses(NoName(thing), house, ("drop", thing))
        for name in ("w", "v"):
            self.refuses(InUse(name), house, ("drop", name))
        house.deal((("release", ("at least", "w", (1, 1), "v")), ("promise", ("between", "d", "m", None, None)), ("promise", ("draws", "a", drawn(A))),
                    ("promise", ("alike", "v", "v"))))
        for name in ("d", "m", "a", "v"):
            self.refuses(InUse(name), house, ("drop", name))
        self.gives(None, house.change, ("drop", "w"))
        self.gives(("a", "d", "m", "v"), house.names)
        house.change(("board", "w", M))
        self.gives(M, house.board, "w")

    def test_rename(self):
        house = sample_house()
        for thing in odd_things() + BAD_NAMES + ["zz"]:
            if thing != "a":
                self.refuses(NoName(thing), house, ("rename", thing, "x"))
                self.refuses(NoName(thing), house, ("rename", thing, None))
        for name in BAD_NAMES:
            self.refuses(BadName(name), house, ("rename", "w", name))
        for name in house.names():
            self.refuses(NameTaken(name), house, ("rename", "w", name))
            self.refuses(NameTaken(name), house, ("rename", "a", name))
        house.change(("rename", "m", "n"))
        self.gives(M, house.board, "n")
        self.raises(NoName("m"), house.board, "m")

    def test_renamed_in_promises(self):
        house = sample_house()
        pledges = [("never", "w"), ("alike", "w", "w"), ("between", "w", "m", (1, 2), None), ("draws", "m", (OPEN,)), ("at least", "d", (0, 1), "w"), ("alike", "v", "v")]
        house.deal(tuple(("promise", promise) for promise in pledges))
        house.deal((("rename", "w", "never"), ("rename", "m", "draws")))
        self.gives((("at least", "never", (1, 1), "v"), ("never", "never"), ("alike", "never", "never"), ("between", "never", "draws", (1, 2), None),
                    ("draws", "draws", (OPEN,)), ("at least", "d", (0, 1), "never"), ("alike", "v", "v")), house.promises)
        house.deal((("rename", "v", "w"), ("rename", "never", "v")))
        self.gives(("at least", "v", (1, 1), "w"), lambda: house.promises()[0])
        self.gives(Q, house.wish, "w")
        self.refuses(InUse("v"), house, ("drop", "v"))
        house.undo()
        house.undo()
        self.gives((("at least", "w", (1, 1), "v"),) + tuple(pledges), house.promises)

    def test_insert(self):
        house = sample_house()
        pieces = list(A.pieces)
        for at, piece in [(0, ("meet", 0)), (3, ("pass", 1, "b")), (2, ("up", 0, (2, 4))), (5, ("down", 0, (0, 9)))]:
            house.change(("insert", "a", at, piece))
            pieces.insert(at, piece)
            self.gives(Board(2, tuple(pieces)), house.board, "a")
        for thing in odd_things() + BAD_NAMES + ["w", "v", "zz"]:
            if thing != "a":
                self.refuses(NoName(thing), house, ("insert", thing, 0, ("meet", 0)))
                self.refuses(NoName(thing), house, ("insert", thing, None, None))
        for at in [-1, 7, 10 ** 30, True, False, None, "0", (0,), [0], M]:
            self.refuses(BadPiece(at), house, ("insert", "a", at, ("meet", 0)))
            self.refuses(BadPiece(at), house, ("insert", "a", at, None))
        for piece in odd_things() + [("meet", 1), ("down", 1, (1, 1)), ("down", 0, (-1, 2)), ("pass", 2, "a"), ("down", 0), ("meet", 0, (1, 1)), ["meet", 0], None]:
            if piece != ("down", 0, (1, 1)):
                self.refuses(BadPiece(piece), house, ("insert", "a", 0, piece))
                self.refuses(BadPiece(piece), house, ("insert", "a", 6, piece))
        bare = House(3)
        bare.change(("board", "b", straight(3)))
        self.refuses(BadPiece(1), bare, ("insert", "b", 1, ("meet", 1)))
        self.gives(None, bare.change, ("insert", "b", 0, ("meet", 1)))

    def test_remove(self):
        house = sample_house()
        for at in [-1, 2, True, False, None, "0", (0,), [0], 10 ** 30]:
            self.refuses(BadPiece(at), house, ("remove", "a", at))
        for thing in odd_things() + BAD_NAMES + ["w", "zz"]:
            if thing != "a":
                self.refuses(NoName(thing), house, ("remove", thing, 0))
                self.refuses(NoName(thing), house, ("remove", thing, None))
        house.change(("remove", "a", 0))
        self.gives(Board(2, A.pieces[1:]), house.board, "a")
        house.change(("remove", "a", 0))
        self.gives(straight(2), house.board, "a")
        self.refuses(BadPiece(0), house, ("remove", "a", 0))

    def test_weigh(self):
        house = sample_house()
        house.change(("insert", "a", 1, ("meet", 0)))
        house.change(("insert", "a", 1, ("pass", 1, "q")))
        for at in [-1, 4, True, False, None, "0", 2]:
            self.refuses(BadPiece(at), house, ("weigh", "a", at, (1, 1)))
            self.refuses(BadPiece(at), house, ("weigh", "a", at, None))
        for thing in odd_things() + BAD_NAMES + ["w", "zz"]:
            if thing != "a":
                self.refuses(NoName(thing), house, ("weigh", thing, 0, (1, 1)))
        for weight in [thing for thing in odd_things() if thing != "a"] + [(-1, 1), (1, 0), "A", "", "abcdefghi", (True, 1), [1, 1], 1, None]:
            self.refuses(BadPiece(weight), house, ("weigh", "a", 0, weight))
        for at, weight in [(0, (2, 4)), (1, "letters"), (3, (0, 5))]:
            house.change(("weigh", "a", at, weight))
        self.gives((("down", 0, (1, 2)), ("pass", 1, "letters"), ("meet", 0), ("up", 0, (0, 1))), lambda: house.board("a").pieces)

    def test_fill(self):
        house = sample_house()
        house.change(("insert", "a", 2, ("pass", 1, "b")))
        board = house.board("a")
        for filling in [None, [], {}, "a", (("a", 1),), (("a", (-1, 1)),), (("b", (1, 1)), ("a", (1, 1))), (("a", (1, 1)), ("a", (1, 1))), ((1, 1), "a"), (["a", (1, 1)],)]:
            self.refuses(BadFilling(filling), house, ("fill", "a", filling))
        for thing in odd_things() + BAD_NAMES + ["w", "zz"]:
            if thing != "a":
                self.refuses(NoName(thing), house, ("fill", thing, ()))
                self.refuses(NoName(thing), house, ("fill", thing, None))
        for filling in [(), (("c", (1, 1)),), (("b", (4, 6)),), (("a", (0, 1)), ("z", (1, 1)))]:
            house.change(("fill", "a", filling))
            board = filled(board, filling)
            self.gives(board, house.board, "a")

    def test_part(self):
        house = sample_house()
        for thing in odd_things() + BAD_NAMES + ["a", "m", "zz"]:
            self.refuses(NoName(thing), house, ("part", thing, PRODUCTS[0], (1, 1)))
            self.refuses(NoName(thing), house, ("part", thing, None, None))
        for product in BAD_PRODUCTS + odd_things() + [((0,), (2,)), ((1,), (0,))]:
            self.refuses(BadProduct(product), house, ("part", "d", product, (1, 1)))
            self.refuses(BadProduct(product), house, ("part", "d", product, None))
        for number in NOT_NUMBERS:
            self.refuses(BadParts(0), house, ("part", "d", PRODUCTS[0], number))
        wish = R
        for product, number in [(0, (3, 6)), (0, (-1, 4)), (1, (0, 7)), (2, (-2, 2)), (0, (-3, 12)), (1, (10 ** 9, 3))]:
            house.change(("part", "d", PRODUCTS[product], number))
            wish = wish_plus(wish, wish_of(2, ((PRODUCTS[product], number),)))
            self.gives(wish, house.wish, "d")

    def test_random_deals(self):
        """Deals change by change on a plain record of names, and back again."""
        for seed in range(12):
            source = random.Random(seed)
            house, things, before = House(3), {}, []
            for number in range(25):
                changes, after = [], dict(things)
                for _ in range(source.randint(0, 4)):
                    changes.append(random_change(source, after))
                before.append((things, state(house)))
                house.deal(tuple(changes))
                things = after
                self.assertEqual(house.names(), tuple(sorted(things)))
                for name, thing in things.items():
                    self.assertEqual(house.board(name) if isinstance(thing, Board) else house.wish(name), thing)
            while before:
                house.undo()
                things, wanted = before.pop()
                self.assertEqual(state(house), wanted)


def random_change(source, things):
    """A change that can be made, and that is made of a dict of names."""
    boards = [name for name, thing in things.items() if isinstance(thing, Board)]
    wishes = [name for name, thing in things.items() if isinstance(thing, Wish)]
    kind = source.choice(["board", "wish", "drop", "rename", "insert", "remove", "part", "fill"])
    fresh = "n" + "".join(source.choice("abcdef") for _ in range(6))
    if kind == "drop" and things:
        name = source.choice(sorted(things))
        del things[name]
        return ("drop", name)
    if kind == "rename" and things and fresh not in things:
        name = source.choice(sorted(things))
        things[fresh] = things.pop(name)
        return ("rename", name, fresh)
    if kind in ("insert", "remove", "fill") and boards:
        name = source.choice(boards)
        pieces = list(things[name].pieces)
        if kind == "insert" or (kind == "remove" and not pieces):
            at, piece = source.randint(0, len(pieces)), ("pass", source.randrange(3), source.choice(["a", "b", (2, 6)]))
            pieces.insert(at, piece)
            change = ("insert", name, at, piece)
        elif kind == "remove":
            at = source.randrange(len(pieces))
            pieces.pop(at)
            change = ("remove", name, at)
        else:
            pieces = [piece[:2] + ((1, 2),) if piece[2:] == ("a",) else piece for piece in pieces]
            change = ("fill", name, (("a", (3, 6)),))
        things[name] = Board(3, tuple(pieces))
        return change
    if kind == "part" and wishes:
        name, product, number = source.choice(wishes), source.choice(products(3)), (source.randint(-3, 3), 2)
        things[name] = wish_of(3, things[name].parts + ((product, number),))
        return ("part", name, product, number)
    thing = random_board(source.random(), 3, 3, ("a",)) if kind == "board" else random_wish(source.random(), 3, 3)
    names = boards if kind == "board" else wishes
    name = source.choice(names) if names and source.random() < 0.4 else fresh
    if fresh in things and name == fresh:
        name = "q" + fresh
    things[name] = thing
    return ("board" if kind == "board" else "wish", name, thing)


BAD_PROMISES = [
    None, (), [], "never w", ("never",), ("never", "w", "w"), ["never", "w"], ("never", "a"), ("never", "zz"), ("never", None), ("never", ["w"]), ("Never", "w"), (None, "w"), (["never"], "w"),
    ("alike", "w"), ("alike", "w", "a"), ("alike", "zz", "w"), ("alike", "w", "v", "d"), ("alike", "w", ["v"]), ("at least", "w", "v"), ("at least", "w", 1, "v"), ("at least", "w", (1, 0), "v"),
    ("at least", "w", (True, 1), "v"), ("at least", "w", [1, 1], "v"), ("at least", "w", None, "v"), ("at least", "a", (1, 1), "v"), ("at least", "w", (1, 1), "m"), ("atleast", "w", (1, 1), "v"),
    ("between", "w", "m", (0, 1)), ("between", "w", "v", None, None), ("between", "m", "w", None, None), ("between", "w", "zz", None, None), ("between", "w", "m", 0, None),
    ("between", "w", "m", None, (1, -1)), ("between", "w", "m", "*", None), ("between", "w", "m", (False, 1), None), ("draws", "m", None), ("draws", "w", ()), ("draws", "m", [OPEN]),
    ("draws", "m", OPEN), ("draws", "m", (NEST, OPEN)), ("draws", "m", (OPEN, OPEN)), ("draws", "m", (pairings(3)[0],)), ("draws", "m", (pairings(1)[0],)), ("draws", "zz", ()),
    ("draws", "m", ("()()",)), ("draws", "m", (((0, True), (2, 3)),)), ("draws", "m", (((False, 1), (2, 3)),)), ("draws", "m"), ("kept",), M, P,
]


class Promises(HouseTest):
    def test_bad_promises(self):
        house = sample_house()
        given = ("at least", "w", (1, 1), "v")
        for thing in BAD_PROMISES + odd_things() + random_things(13, 100):
            self.refuses(BadPromise(thing), house, ("promise", thing))
            self.refuses(NoPromise(thing), house, ("release", thing))
            self.raises(BadPromise(thing), house.judged, thing)
        for thing in [given, ("at least", "w", (7, 7), "v")]:
            self.refuses(BadPromise(thing), house, ("promise", thing))
        for thing in [("never", "w"), ("at least", "w", (1, 2), "v"), ("at least", "v", (1, 1), "w"), ("between", "w", "m", None, None), ("draws", "m", (OPEN,))]:
            self.refuses(NoPromise(thing), house, ("release", thing))
        self.refuses(NoPromise(("at least", "w", (True, 1), "v")), house, ("release", ("at least", "w", (True, 1), "v")))
        self.gives((given,), house.promises)

    def test_given_and_released_with_divisors(self):
        house = sample_house()
        house.change(("promise", ("between", "w", "m", (2, 4), (6, 3))))
        house.change(("promise", ("at least", "d", (0, 5), "v")))
        self.gives((("at least", "w", (1, 1), "v"), ("between", "w", "m", (1, 2), (2, 1)), ("at least", "d", (0, 1), "v")), house.promises)
        for thing in [("between", "w", "m", (3, 6), (2, 1)), ("between", "w", "m", (1, 2), (10, 5)), ("at least", "d", (0, 9), "v")]:
            self.refuses(BadPromise(thing), house, ("promise", thing))
        house.change(("release", ("between", "w", "m", (5, 10), (20, 10))))
        self.gives((("at least", "w", (1, 1), "v"), ("at least", "d", (0, 1), "v")), house.promises)
        house.change(("promise", ("between", "w", "m", (2, 4), None)))
        self.gives(("between", "w", "m", (1, 2), None), lambda: house.promises()[-1])
        self.refuses(NoPromise(("between", "w", "m", None, (1, 2))), house, ("release", ("between", "w", "m", None, (1, 2))))
        house.change(("release", ("at least", "w", (4, 4), "v")))
        house.change(("promise", ("at least", "w", (1, 1), "v")))
        self.gives(("at least", "w", (1, 1), "v"), lambda: house.promises()[-1])

    def test_judged(self):
        house = House(3)
        names = []
        for seed in range(8):
            names.append(("w" + "abcdefgh"[seed], "b" + "abcdefgh"[seed]))
            wish = random_wish(seed, 3, 3)
            house.deal((("wish", names[-1][0], wish), ("board", names[-1][1], random_board(seed, 3, 5, ("a", "b") if seed % 4 == 0 else ()))))
        house.change(("wish", "same", house.wish("wa")))
        for seed, (wish, board) in enumerate(names):
            own = judge_never(house.wish(wish))
            self.gives(("kept",) if own[0] == "never" else own, house.judged, ("never", wish))
            for other, _ in names + [("same", None)]:
                own = judge_alike(house.wish(wish), house.wish(other))
                self.gives(("kept",) if own[0] == "alike" else own, house.judged, ("alike", wish, other))
                for number in [(0, 1), (3, 6), (-2, 1)]:
                    own = judge_never(wish_minus(house.wish(wish), wish_times(number, house.wish(other))))
                    self.gives(("kept",) if own[0] == "never" else own, house.judged, ("at least", wish, number, other))
            for own in [drawn(house.board(board)), (), pairings(3), pairings(3)[1:3]]:
                found = drawn(house.board(board))
                self.gives(("kept",) if own == found else ("drawn", found), house.judged, ("draws", board, own))

    def test_between(self):
        house = sample_house()
        number = filled_worth(P, M)
        self.assertEqual(number, (1, 1))
        for low, high, kept in [(None, None, True), ((1, 1), (1, 1), True), ((2, 2), (9, 3), True), ((1, 2), None, True), (None, (3, 2), True), ((5, 4), None, False),
                                (None, (3, 4), False), ((3, 1), (0, 1), False), ((2, 1), (1, 1), False), ((1, 1), (0, 1), False), ((-5, 1), (-1, 7), False)]:
            self.gives(("kept",) if kept else ("worth", number), house.judged, ("between", "w", "m", low, high))
            change = ("promise", ("between", "w", "m", low, high))
            if kept:
                self.gives(None, house.would, (change,))
            else:
                promise = ("between", "w", "m") + tuple(None if bound is None else slow.pair_of(slow.Fraction(*bound)) for bound in (low, high))
                self.breaks(promise, ("worth", number), house, change)
        # A letter comes ahead of the worth, even if no bound is there; of several letters it is the least one.
        for low, high in [(None, None), ((3, 1), (0, 1))]:
            self.gives(("unfilled", "a"), house.judged, ("between", "w", "a", low, high))
        house.change(("insert", "a", 0, ("pass", 0, "aa")))
        house.change(("weigh", "a", 1, "z"))
        self.gives(("unfilled", "aa"), house.judged, ("between", "w", "a", None, None))
        house.change(("fill", "a", (("aa", (1, 1)), ("z", (1, 3)))))
        self.gives(("worth", slow.pair_of(slow.worth(P, house.board("a")))), house.judged, ("between", "w", "a", (100, 1), None))

    def test_faults_of_every_kind(self):
        house = sample_house()
        house.deal((("promise", ("never", "d")), ("promise", ("alike", "d", "d")), ("promise", ("between", "d", "m", None, (0, 1))), ("promise", ("draws", "m", (OPEN,)))))
        self.breaks(("never", "d"), ("below", told_board(NEST)), house, ("part", "d", PRODUCTS[2], (-2, 1)))
        self.breaks(("at least", "w", (1, 1), "v"), ("below", told_board(OPEN)), house, ("part", "v", PRODUCTS[1], (1, 1)))
        self.breaks(("between", "d", "m", None, (0, 1)), ("worth", (1, 1)), house, ("part", "d", PRODUCTS[0], (1, 1)))
        self.breaks(("between", "d", "m", None, (0, 1)), ("unfilled", "b"), house, ("insert", "m", 1, ("pass", 0, "b")))
        self.breaks(("draws", "m", (OPEN,)), ("drawn", ()), house, ("insert", "m", 1, ("pass", 0, (0, 1))))
        self.breaks(("draws", "m", (OPEN,)), ("drawn", (NEST,)), house, ("release", ("between", "d", "m", None, (0, 1))), ("board", "m", straight(2)))
        house.change(("wish", "e", R))
        house.change(("promise", ("alike", "d", "e")))
        self.breaks(("alike", "d", "e"), ("parted", told_board(NEST)), house, ("wish", "e", Wish(2, ())))
        self.breaks(("alike", "d", "e"), ("parted", told_board(OPEN)), house, ("wish", "e", P))
        # The first promise that is not kept is told, in the order in which they were given.
        self.breaks(("never", "d"), ("below", told_board(NEST)), house, ("part", "d", PRODUCTS[2], (-2, 1)), ("part", "v", PRODUCTS[2], (-2, 1)))
        house.change(("release", ("never", "d")))
        house.change(("promise", ("never", "d")))
        self.breaks(("alike", "d", "e"), ("parted", told_board(NEST)), house, ("part", "d", PRODUCTS[2], (-2, 1)))

    def test_broken_in_the_midst(self):
        house = sample_house()
        house.change(("promise", ("draws", "m", (OPEN,))))
        for changes in [(("part", "w", PRODUCTS[0], (-9, 1)), ("part", "w", PRODUCTS[0], (9, 1))), (("board", "m", straight(2)), ("board", "m", M)),
                        (("part", "w", PRODUCTS[0], (-9, 1)), ("release", ("at least", "w", (1, 1), "v"))),
                        (("promise", ("never", "d")), ("part", "d", PRODUCTS[2], (-7, 1)), ("release", ("never", "d"))),
                        (("wish", "u", wish_times((-1, 1), P)), ("promise", ("never", "u")), ("wish", "u", P))]:
            other = house.copy()
            self.gives(None, other.would, changes)
            self.gives(None, other.deal, changes)
            self.gives(changes, lambda: other.deals()[-1])
        self.breaks(("never", "u"), ("below", straight(2)), house, ("wish", "u", P), ("promise", ("never", "u")), ("wish", "u", wish_times((-1, 1), R)))

    def test_a_promise_that_is_not_kept_is_not_given(self):
        house = sample_house()
        self.breaks(("never", "u"), ("below", straight(2)), house, ("wish", "u", wish_times((-3, 1), R)), ("promise", ("never", "u")))
        self.breaks(("alike", "w", "v"), ("parted", straight(2)), house, ("promise", ("alike", "w", "v")))
        self.breaks(("at least", "v", (1, 1), "w"), ("below", straight(2)), house, ("promise", ("at least", "v", (4, 4), "w")))
        self.breaks(("draws", "a", ()), ("drawn", (OPEN, NEST)), house, ("promise", ("draws", "a", ())))

    def test_promises_in_their_order(self):
        house = sample_house()
        pledges = [("never", "w"), ("never", "v"), ("alike", "d", "d"), ("draws", "a", (OPEN, NEST)), ("between", "v", "m", None, None)]
        for promise in pledges:
            house.change(("promise", promise))
        self.gives((("at least", "w", (1, 1), "v"),) + tuple(pledges), house.promises)
        house.deal((("release", pledges[1]), ("promise", pledges[1])))
        self.gives((("at least", "w", (1, 1), "v"), pledges[0]) + tuple(pledges[2:]) + (pledges[1],), house.promises)

    def test_what_is_promised_holds(self):
        """On boards drawn at random, after deals at random."""
        for seed in range(10):
            source = random.Random(seed)
            house = House(3)
            house.deal((("wish", "p", random_wish(seed, 3, 3)), ("wish", "q", random_wish(seed + 50, 3, 3)), ("board", "b", random_board(seed, 3, 4))))
            for promise in [("never", "p"), ("at least", "p", (1, 2), "q"), ("alike", "p", "q"), ("between", "p", "b", (0, 1), (20, 1)), ("draws", "b", drawn(house.board("b")))]:
                try:
                    house.change(("promise", promise))
                except Unkept:
                    pass
            for _ in range(15):
                change = source.choice([("part", source.choice("pq"), source.choice(products(3)), (source.randint(-1, 2), 1)), ("board", "b", random_board(source.random(), 3, 4)),
                                        ("insert", "b", 0, ("pass", source.randrange(3), (source.randint(0, 3), 2)))])
                before = state(house)
                try:
                    house.change(change)
                except CompanyError as error:
                    self.assertIsInstance(error, Unkept)
                    self.assertEqual(state(house), before)
                for promise in house.promises():
                    self.gives(("kept",), house.judged, promise)
                    self.check_on_boards(house, promise, source)

    def check_on_boards(self, house, promise, source):
        for _ in range(2):
            board = random_board(source.random(), 3, 5)
            if promise[0] == "never":
                self.assertGreaterEqual(filled_worth(house.wish(promise[1]), board)[0], 0)
            if promise[0] == "alike":
                self.assertEqual(filled_worth(house.wish(promise[1]), board), filled_worth(house.wish(promise[2]), board))
            if promise[0] == "at least":
                difference = wish_minus(house.wish(promise[1]), wish_times(promise[2], house.wish(promise[3])))
                self.assertGreaterEqual(filled_worth(difference, board)[0], 0)
        if promise[0] == "between":
            number = slow.worth(house.wish(promise[1]), house.board(promise[2]))
            self.assertTrue(slow.Fraction(*promise[3]) <= number <= slow.Fraction(*promise[4]))
        if promise[0] == "draws":
            self.assertEqual(drawn(house.board(promise[1])), promise[2])

    def test_nothing_that_is_passed_is_changed(self):
        house = sample_house()
        changes = (("part", "w", PRODUCTS[0], (4, 8)), ("promise", ("between", "w", "m", (2, 8), None)), ("board", "x", Board(2, (("pass", 0, (1, 2)),))))
        kept = copy.deepcopy(changes)
        house.deal(changes)
        house.change(("insert", "x", 0, ("meet", 0)))
        self.assertEqual(strict(changes), strict(kept))
        self.gives(changes, lambda: house.deals()[-2])

    def test_by_name(self):
        house = House(size=2)
        house.change(change=("wish", "w", P))
        house.deal(changes=(("board", "b", M),))
        self.assertIsNone(house.would(changes=()))
        self.assertEqual((house.board(name="b"), house.wish(name="w")), (M, P))
        self.assertEqual(house.judged(promise=("never", "w")), ("kept",))
        self.assertEqual(house.shares(board="b"), shares(M))
        self.assertEqual(house.coordinates(wish="w"), coordinates(P))
