"""Consoles: their commands, and what they return and refuse."""

import random

from tests.anything import random_things
from tests.helpers import CompanyTest
from tests.samples import A, M, odd_things
from tests.test_houses import sample_house, state
from twocompanies.boards import Board
from twocompanies.consoles import Console
from twocompanies.drawing import planned, straight
from twocompanies.errors import (BadChange, BadPromise, BadSpeech, BadText, CompanyError, InUse, InvalidCommand, NameTaken, NoName, NoPromise,
                                 NothingToUndo, OtherSizes, Unkept)
from twocompanies.houses import House
from twocompanies.pairings import pairings
from twocompanies.plainform import wish_with
from twocompanies.speech import spoken
from twocompanies.sums import sum_text
from twocompanies.wishes import Wish, one_product, whole
from twocompanies.words import told_board

OPEN, NEST = pairings(2)


class ConsoleTest(CompanyTest):
    def runs(self, console, *lines):
        """Runs commands that change the house, each of which is done at once."""
        for line in lines:
            self.gives("done", console.run, line)

    def refuses(self, wanted, console, line):
        """Checks that a command is refused with this error and changes nothing."""
        before = state(console.house), console.aside and list(console.aside)
        self.raises(wanted, console.run, line)
        self.assertEqual((state(console.house), console.aside and list(console.aside)), before)

    def invalid(self, console, *lines):
        for line in lines:
            self.refuses(InvalidCommand(), console, line)


class Changing(ConsoleTest):
    def test_examples(self):
        console = Console(House(2))
        self.runs(console, "wish w = size 2 ; wish [ 0 | 0 ]", "wish v = size 2 ; wish [ 0 | 1 ]", "promise atleast w 1 v")
        self.gives("stretch * 1", console.run, "factors w v")
        self.gives("never", console.run, "never v")
        self.refuses(NoName("v"), console, "worth w v")
        self.gives((("at least", "w", (1, 1), "v"),), console.house.promises)

    def test_house(self):
        house = sample_house()
        console = Console(house)
        self.assertIs(console.house, house)
        console.run("drop m")
        self.raises(NoName("m"), house.board, "m")
        self.assertIs(Console(house=house).house, house)

    def test_plans(self):
        console = Console(House(3))
        for words, plan in [("board 3", "board 3"), ("board 3 ; meet 1 ; down 0 a", "board 3\nmeet 1\ndown 0 a"),
                            ("board 3 ; repeat 2 ; meet turn ; up turn+1 1/2 ; end", "board 3\nrepeat 2\nmeet turn\nup turn+1 1/2\nend")]:
            self.runs(console, f"board b = {words}")
            self.gives(planned(plan), console.house.board, "b")
            self.gives(("board", "b", planned(plan)), lambda: console.house.deals()[-1][0])
        for words, line in [("board 3 ;", 2), ("board 3 ; ; meet 0", 2), (";", 1), ("; board 3", 1), ("board", 1), ("x", 1), ("=", 1), ("board 3 meet 0", 1), ("board 3 ; meet 2", 2),
                            ("board 3 ; repeat 2", 3), ("board 3 ; end", 2), ("board 3 ; meet 0 ;", 3), ("board 3 ; meet 0;", 2), ("wish 3", 1)]:
            self.refuses(BadText(line), console, f"board b = {words}")
        self.refuses(OtherSizes(), console, "board b = board 2")

    def test_speeches(self):
        console = Console(House(2))
        for words, speech in [("size 2 ; wish [ 0 | 0 ]", "size 2\nwish [ 0 | 0 ]"), ("size 2 ; let D = [ all | all ] ; wish 2 D - [ 0 | 1 ]", "size 2\nlet D = [ all | all ]\nwish 2 D - [ 0 | 1 ]")]:
            self.runs(console, f"wish wish = {words}")
            self.gives(spoken(speech), console.house.wish, "wish")
        for words, line in [("size 2", 2), ("size 2 ;", 2), (";", 1), ("size 2 ; wish", 2), ("size 2 ; wish [ 0 | 0 ] ;", 3), ("size 2 ; wish [ 0 | 2 ]", 2), ("size 7 ; wish [ 0 | 0 ]", 1), ("size 2 ; ; wish [ 0 | 0 ]", 2),
                            ("board 2", 1), ("size 2 ; let d = [ 0 | 0 ] ; wish [ 0 | 0 ]", 2)]:
            self.refuses(BadSpeech(line), console, f"wish w = {words}")
        self.refuses(OtherSizes(), console, "wish w = size 3 ; wish [ 0 | 0 ]")

    def test_changes_that_the_house_refuses(self):
        console = Console(sample_house())
        self.refuses(NameTaken("w"), console, "board w = board 2")
        self.refuses(NameTaken("a"), console, "wish a = size 2 ; wish [ 0 | 0 ]")
        self.refuses(NoName("zz"), console, "drop zz")
        self.refuses(InUse("w"), console, "drop w")
        self.refuses(NoName("zz"), console, "rename zz w")
        self.refuses(NameTaken("w"), console, "rename a w")
        self.refuses(NameTaken("a"), console, "rename a a")
        self.refuses(BadPromise(("never", "a")), console, "promise never a")
        self.refuses(BadPromise(("at least", "w", (1, 1), "v")), console, "promise atleast w 1 v")
        self.refuses(NoPromise(("never", "w")), console, "release never w")
        self.refuses(Unkept(("alike", "w", "v"), ("parted", straight(2))), console, "promise alike w v")
        self.refuses(Unkept(("at least", "w", (1, 1), "v"), ("below", told_board(OPEN))), console, "wish v = size 2 ; wish 2 [ 0 | 1 ]")
        self.assertEqual(len(console.house.deals()), 2)

    def test_drop_rename_undo(self):
        console = Console(sample_house())
        before = state(console.house)
        self.runs(console, "drop m", "rename a drop", "rename drop undo", "drop undo")
        self.gives("d v w", console.run, "names")
        self.runs(console, "undo", "undo", "undo", "undo")
        self.assertEqual(state(console.house), before)
        self.runs(console, "undo", "undo")
        self.refuses(NothingToUndo(), console, "undo")

    def test_promises(self):
        console = Console(sample_house())
        lines = {"never d": ("never", "d"), "alike v v": ("alike", "v", "v"), "atleast d -1/2 v": ("at least", "d", (-1, 2), "v"), "between w m 1 *": ("between", "w", "m", (1, 1), None),
                 "between w m * 3/2": ("between", "w", "m", None, (3, 2)), "between d m * *": ("between", "d", "m", None, None), "draws m ()()": ("draws", "m", (OPEN,)),
                 "draws a ()() (())": ("draws", "a", (OPEN, NEST))}
        for line, promise in lines.items():
            self.runs(console, f"promise {line}")
            self.gives(promise, lambda: console.house.promises()[-1])
            self.refuses(BadPromise(promise), console, f"promise {line}")
        for line, promise in lines.items():
            self.runs(console, f"release {line}")
            self.refuses(NoPromise(promise), console, f"release {line}")
        self.gives((("at least", "w", (1, 1), "v"),), console.house.promises)
        self.runs(console, "board o = board 2 ; pass 0 0", "promise draws o -")
        self.gives(("draws", "o", ()), lambda: console.house.promises()[-1])

    def test_pairings_of_another_size(self):
        """They are written correctly, and the house refuses the promise."""
        console = Console(sample_house())
        for words, found in [("()", (pairings(1)[0],)), ("()()()", (pairings(3)[0],)), ("() ()()", (pairings(1)[0], OPEN)), ("()() ()()()", (OPEN, pairings(3)[0])),
                             ("()()()()()()", (pairings(6)[0],))]:
            self.refuses(BadPromise(("draws", "m", found)), console, f"promise draws m {words}")
            self.refuses(NoPromise(("draws", "m", found)), console, f"release draws m {words}")
        self.invalid(console, "promise draws m ()()()()()()()", "promise draws m (()) ()()", "promise draws m ()() ()", "promise draws m () ()")

    def test_what_is_no_command(self):
        console = Console(sample_house())
        bad = ["", " ", "nonsense", "Names", "names ", " names", "names names", "show", "show w v", "show  w", "show W", "show abcdefghijklm", "show w\n", "names\nnames", "show w1", "show =",
               "board", "board b", "board b =", "board b = ", "board = board 2", "board b board 2", "board B = board 2", "board b  = board 2", "board b = board  2", "board b = board 2 ;  ; meet 0",
               "board b == board 2", "board b c = board 2", "board b = board 2\nmeet 0", "wish w", "wish w =", "wish w1 = size 2 ; wish [ 0 | 0 ]", "wish w := size 2",
               "drop", "drop a m", "drop A", "drop abcdefghijklm", "rename a", "rename a b c", "rename A b", "rename a B", "rename a b ", "undo undo", "undo 1", "begin 2", "begin begin", "end end",
               "forget it", "promise", "release", "promise never", "promise never w v", "promise never W", "promise nev w", "promise at least w 1 v", "promise atleast w v", "promise atleast w 2/2 v",
               "promise atleast w 1/0 v", "promise atleast w -0 v", "promise atleast w * v", "promise atleast w 1 V", "promise between w m 1", "promise between w m 1 2 3", "promise between w m ** 1",
               "promise between w m 2/4 *", "promise between w 1 m *", "promise between w m None None", "promise draws", "promise draws m", "promise draws m - -", "promise draws m ()() -",
               "promise draws m )(", "promise draws m ()() ()()", "promise draws m ()()(", "promise draws M -", "promise promise never w", "release", "release never", "release atleast w 2/2 v",
               "worth w", "worth w a a", "worth w A", "shares", "shares a a", "shares 1", "coordinates", "coordinates w w", "never", "never w w", "alike w", "alike w v d", "factors w", "factors w v d",
               "factors w 1", "end", "forget", "house", "draws a", "between w a * *", "atleast w 1 v", "insert a 0 meet 0", "fill a", "part w 1 0 | 0"]
        self.invalid(console, *bad)
        for thing in odd_things() + random_things(15, 200) + [None, 5, ["names"], ("names",), A, House(2)]:
            if thing not in ("names", "begin", "undo"):
                self.invalid(console, thing)

    def test_names_that_are_words_of_commands(self):
        console = Console(House(2))
        words = ["board", "wish", "drop", "rename", "promise", "release", "undo", "begin", "end", "forget", "names", "show", "worth", "shares", "coordinates", "never", "alike", "factors",
                 "atleast", "between", "draws", "size", "let", "repeat", "done", "noted", "straight"]
        for number, word in enumerate(words):
            self.runs(console, f"board {word} = board 2 ; meet 0" if number % 2 else f"wish {word} = size 2 ; wish [ 0 | 0 ]")
        self.gives(" ".join(sorted(words)), console.run, "names")
        for number, word in enumerate(words):
            self.gives("board 2\nmeet 0" if number % 2 else "wish 2\n1 0 | 0", console.run, f"show {word}")
        boards, wishes = words[1::2], words[::2]
        for board, wish in zip(boards, wishes):
            self.gives("1", console.run, f"worth {wish} {board}")
            self.gives("1 ; 0", console.run, f"shares {board}")
            self.gives("1 1", console.run, f"coordinates {wish}")
            self.gives("never", console.run, f"never {wish}")
            self.gives("alike", console.run, f"alike {wish} {wishes[0]}")
            self.runs(console, f"promise never {wish}", f"promise alike {wish} {wishes[-1]}", f"promise between {wish} {board} 1 1", f"promise draws {board} ()()")
            self.runs(console, f"release alike {wish} {wishes[-1]}", f"release never {wish}", f"release between {wish} {board} 1 1", f"release draws {board} ()()")
            self.runs(console, f"rename {wish} q", f"rename q {wish}", f"drop {board}")
        self.gives(" ".join(sorted(wishes + words[1::2][len(wishes):])), console.run, "names")


class Deals(ConsoleTest):
    def test_begin_and_end(self):
        console = Console(sample_house())
        before = state(console.house)
        self.runs(console, "begin")
        self.gives("noted 1", console.run, "wish v = size 2 ; wish 3 [ 0 | 1 ]")
        self.gives("noted 2", console.run, "drop m")
        self.gives("noted 3", console.run, "release atleast w 1 v")
        self.gives("noted 4", console.run, "promise never v")
        self.gives("noted 5", console.run, "rename a b")
        self.gives("noted 6", console.run, "board c = board 2")
        self.assertEqual(state(console.house), before)
        self.runs(console, "end")
        self.gives(("b", "c", "d", "v", "w"), console.house.names)
        self.gives((("wish", "v", spoken("size 2\nwish 3 [ 0 | 1 ]")), ("drop", "m"), ("release", ("at least", "w", (1, 1), "v")), ("promise", ("never", "v")), ("rename", "a", "b"),
                    ("board", "c", straight(2))), lambda: console.house.deals()[-1])
        self.invalid(console, "end", "forget")
        self.runs(console, "undo")
        self.assertEqual(state(console.house), before)

    def test_no_changes(self):
        console = Console(House(2))
        self.runs(console, "begin", "end")
        self.gives(((),), console.house.deals)
        self.runs(console, "begin", "forget")
        self.gives(((),), console.house.deals)
        self.runs(console, "undo")
        self.refuses(NothingToUndo(), console, "undo")

    def test_forget(self):
        console = Console(sample_house())
        before = state(console.house)
        self.runs(console, "begin")
        console.run("drop m")
        console.run("drop nothing")
        self.runs(console, "forget")
        self.assertEqual(state(console.house), before)
        self.invalid(console, "forget", "end")
        self.runs(console, "begin")
        self.gives("noted 1", console.run, "drop m")
        self.runs(console, "end")

    def test_where_they_may_stand(self):
        console = Console(sample_house())
        self.invalid(console, "end", "forget")
        self.runs(console, "begin")
        self.invalid(console, "begin", "undo", "nonsense", "drop A", "promise never")
        self.gives("noted 1", console.run, "drop m")
        self.invalid(console, "begin", "undo")
        self.gives("noted 2", console.run, "drop a")
        self.runs(console, "end")
        self.invalid(console, "end", "forget")
        self.runs(console, "undo")

    def test_what_is_looked_at_by_end(self):
        console = Console(sample_house())
        before = state(console.house)
        for lines, wanted in [(["drop m", "drop m"], BadChange(1)), (["board w = board 2"], BadChange(0)), (["wish x = size 3 ; wish [ 0 | 0 ]"], BadChange(0)), (["drop w"], BadChange(0)),
                              (["drop m", "promise draws a ()", "drop d"], BadChange(1)), (["promise never zz"], BadChange(0)), (["promise atleast w 1 v"], BadChange(0)),
                              (["wish w = size 2 ; wish -1 [ 0 | 0 ]", "drop m"], Unkept(("at least", "w", (1, 1), "v"), ("below", straight(2)))), (["release never w"], BadChange(0)),
                              (["rename a w"], BadChange(0)), (["promise alike w v"], Unkept(("alike", "w", "v"), ("parted", straight(2))))]:
            self.runs(console, "begin")
            for number, line in enumerate(lines):
                self.gives(f"noted {number + 1}", console.run, line)
            self.raises(wanted, console.run, "end")
            self.assertEqual(state(console.house), before)
            # What end refuses is forgotten, and the begin with it.
            self.invalid(console, "end", "forget")
            self.assertEqual(state(console.house), before)
        self.runs(console, "begin", "end", "undo", "drop m")

    def test_plans_and_speeches_are_read_at_once(self):
        console = Console(sample_house())
        self.runs(console, "begin")
        self.gives("noted 1", console.run, "drop m")
        self.refuses(BadText(2), console, "board b = board 2 ; meet 1")
        self.refuses(BadSpeech(2), console, "wish b = size 2 ; wish [ 0 | 2 ]")
        self.gives("noted 2", console.run, "board b = board 3")
        self.raises(BadChange(1), console.run, "end")
        self.gives(M, console.house.board, "m")

    def test_other_commands_work_in_between(self):
        console = Console(sample_house())
        self.runs(console, "begin")
        console.run("rename w x")
        console.run("drop m")
        self.gives("a d m v w", console.run, "names")
        self.gives("wish 2\n1 0 | 0", console.run, "show w")
        self.refuses(NoName("x"), console, "show x")
        for line in ["worth w a", "shares m", "coordinates w", "never w", "alike w v", "factors w v"]:
            self.assertNotEqual(console.run(line)[:5], "noted")
        self.gives("noted 3", console.run, "drop d")
        self.runs(console, "end")
        self.gives("a v x", console.run, "names")

    def test_the_house_is_changed_in_between(self):
        house = sample_house()
        console = Console(house)
        self.runs(console, "begin")
        console.run("drop m")
        house.change(("drop", "m"))
        self.raises(BadChange(0), console.run, "end")
        other = Console(house)
        self.invalid(other, "end")
        self.runs(other, "begin", "forget")


class Asking(ConsoleTest):
    def test_names_and_show(self):
        console = Console(House(2))
        self.gives("-", console.run, "names")
        console = Console(sample_house())
        self.gives("a d m v w", console.run, "names")
        for name in ("a", "m"):
            self.gives(str(console.house.board(name)), console.run, f"show {name}")
        for name in ("d", "v", "w"):
            self.gives(str(console.house.wish(name)), console.run, f"show {name}")
        self.refuses(NoName("zz"), console, "show zz")
        self.runs(console, "wish e = size 2 ; wish [ 0 | 0 ] - [ 0 | 0 ]")
        self.gives("wish 2", console.run, "show e")

    def test_worth_shares_coordinates(self):
        console = Console(sample_house())
        house = console.house
        for board in ("a", "m"):
            self.gives(" ; ".join(sum_text(some) for some in house.shares(board)), console.run, f"shares {board}")
            for wish in ("d", "v", "w"):
                self.gives(sum_text(house.worth(wish, board)), console.run, f"worth {wish} {board}")
        self.gives("1/2*a ; 1", console.run, "shares a")
        self.gives("1 + 1/2*a", console.run, "worth w a")
        self.gives("1 0", console.run, "coordinates v")
        house.change(("part", "v", ((0, 1), (0, 1)), (-1, 2)))
        self.gives("1 -1/2", console.run, "coordinates v")
        for line, name in [("worth a w", "a"), ("worth zz yy", "zz"), ("worth w yy", "yy"), ("worth w v", "v"), ("shares w", "w"), ("shares zz", "zz"), ("coordinates a", "a"), ("coordinates zz", "zz")]:
            self.refuses(NoName(name), console, line)

    def test_never(self):
        console = Console(House(3))
        kinds = pairings(3)
        for at, pairing in enumerate(kinds):
            numbers = tuple((-1, 1) if other == at else (1, 1) for other in range(5))
            console.house.change(("wish", "w", wish_with(3, numbers)))
            meetings = " ".join(str(piece[1]) for piece in told_board(pairing).pieces) or "straight"
            self.gives(f"below {meetings}", console.run, "never w")
            console.house.change(("wish", "z", Wish(3, ())))
            console.house.change(("wish", "o", wish_with(3, tuple((3, 1) if other == at else (0, 1) for other in range(5)))))
            self.gives(f"parted {meetings}", console.run, "alike z o")
        console.house.change(("wish", "w", whole(3)))
        self.gives("never", console.run, "never w")
        self.gives("alike", console.run, "alike w w")
        for line, name in [("never zz", "zz"), ("alike zz yy", "zz"), ("alike w yy", "yy"), ("factors zz yy", "zz"), ("factors w yy", "yy")]:
            self.refuses(NoName(name), console, line)

    def test_factors(self):
        console = Console(House(2))
        for one, other, wanted in [((2, 3), (1, -1), "stretch -3 2"), ((2, 3), (3, 0), "stretch * 2/3"), ((-1, 0), (-2, 0), "stretch 1/2 *"), ((2, 0), (0, 0), "stretch * *"),
                                   ((5, -1), (2, 0), "none"), ((1, -4), (1, -2), "none"), ((0, 5), (1, 0), "stretch * 0")]:
            console.house.change(("wish", "one", wish_with(2, tuple((own, 1) for own in one))))
            console.house.change(("wish", "other", wish_with(2, tuple((own, 1) for own in other))))
            self.gives(wanted, console.run, "factors one other")

    def test_asking_changes_nothing(self):
        console = Console(sample_house())
        before = state(console.house)
        for line in ["names", "show a", "worth w a", "shares a", "coordinates w", "never w", "alike w v", "factors w v"]:
            console.run(line)
        self.assertEqual(state(console.house), before)

    def test_random_commands(self):
        """Whatever is run, only errors of this package come, and what they refuse changes nothing."""
        source = random.Random(3)
        words = ["names", "show", "worth", "shares", "coordinates", "never", "alike", "factors", "drop", "rename", "promise", "release", "undo", "begin", "end", "forget", "board", "wish",
                 "=", ";", "a", "b", "w", "v", "1", "*", "-", "()()", "(())", "atleast", "between", "draws", "board 2", "size 2", "wish [ 0 | 0 ]", "meet 0"]
        done = 0
        for number in range(6000):
            if number % 50 == 0:
                console = Console(sample_house())
            line = " ".join(source.choice(words[number % 2 * 20:]) for _ in range(source.randint(0, 4)))
            line = source.choice(words[:18]) + (" " + line if line else "")
            before, aside = state(console.house), console.aside
            try:
                text = console.run(line)
            except CompanyError:
                self.assertEqual(state(console.house), before)
                self.assertEqual(console.aside, aside if line != "end" else None)
            else:
                done += 1
                self.assertIsInstance(text, str)
        self.assertGreater(done, 100)

    def test_by_name(self):
        console = Console(house=House(2))
        self.assertEqual(console.run(line="names"), "-")
        console.house.change(("board", "b", Board(2, ())))
        self.assertEqual(console.run(line="show b"), "board 2")
        self.assertEqual(one_product(2, (0,), (0,)), spoken("size 2\nwish [ 0 | 0 ]"))
