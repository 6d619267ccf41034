"""Texts of houses [12.4]: str(house) and House.read."""

import random

from tests.anything import random_things
from tests.helpers import CompanyTest
from tests.samples import A, M, changed_texts, odd_things, random_board, random_wish
from tests.test_houses import sample_house, state
from twocompanies.boards import Board
from twocompanies.drawing import straight
from twocompanies.errors import BadText, CompanyError, NothingToUndo
from twocompanies.houses import House
from twocompanies.pairings import pairings, straight_pairing
from twocompanies.shares import drawn
from twocompanies.wishes import Wish, whole, wish_times

OPEN, NEST = pairings(2)


def full_house():
    """A house with promises of every kind."""
    house = sample_house()
    house.deal((("board", "b", straight(2)), ("wish", "empty", Wish(2, ())), ("wish", "never", wish_times((-3, 6), whole(2)))))
    house.deal(tuple(("promise", promise) for promise in [
        ("never", "empty"), ("alike", "d", "d"), ("between", "never", "m", (-4, 8), None), ("between", "never", "b", None, (0, 7)), ("between", "d", "b", (1, 2), (7, 3)),
        ("draws", "m", (OPEN,)), ("draws", "a", (OPEN, NEST)), ("between", "d", "m", None, None), ("at least", "d", (-2, 3), "empty")]))
    return house


FULL = """house 2
board a
down 0 a
up 0 1/2
board b
wish d
1 0 1 | 0 1
wish empty
board m
meet 0
wish never
-1/2 0 1 | 0 1
wish v
1 0 | 1
wish w
1 0 | 0
atleast w 1 v
never empty
alike d d
between never m -1/2 *
between never b * 0
between d b 1/2 7/3
draws m ()()
draws a ()() (())
between d m * *
atleast d -2/3 empty"""


class Texts(CompanyTest):
    def test_text(self):
        self.gives(FULL, str, full_house())
        self.gives("house 1", str, House(1))
        house = House(3)
        house.change(("board", "x", Board(3, (("pass", 2, (0, 1)),))))
        house.change(("promise", ("draws", "x", ())))
        self.gives("house 3\nboard x\npass 2 0\ndraws x -", str, house)

    def test_read_back(self):
        house = full_house()
        again = House.read(FULL)
        self.assertEqual(again, house)
        self.gives(FULL, str, again)
        self.gives((), again.deals)
        self.gives(house.promises(), again.promises)
        self.raises(NothingToUndo(), again.undo)
        again.change(("rename", "b", "bb"))
        self.assertEqual(len(again.deals()), 1)
        again.undo()
        self.assertEqual(again, house)
        for size in range(1, 7):
            self.assertEqual(House.read(f"house {size}"), House(size))

    def test_houses_at_random(self):
        for seed in range(40):
            source = random.Random(seed)
            house = House(1 + seed % 4)
            for number in range(source.randint(0, 6)):
                name = "".join(source.choice("abc") for _ in range(source.randint(1, 3)))
                thing = random_board(source.random(), house.size, 4, ("q",)) if source.random() < 0.5 else random_wish(source.random(), house.size, 4)
                try:
                    house.change(("board" if isinstance(thing, Board) else "wish", name, thing))
                except CompanyError:
                    pass
            for name in house.names():
                if name in house.stock.boards:
                    house.change(("promise", ("draws", name, drawn(house.board(name)))))
                else:
                    house.change(("promise", ("alike", name, name)))
            again = House.read(str(house))
            self.assertEqual(again, house)
            self.assertEqual(state(again)[1][1:5], state(house)[1][1:5])

    def test_what_is_no_string(self):
        for thing in odd_things() + random_things(14, 60) + [None, ["house 2"], House(2), ("house 2",)]:
            if not isinstance(thing, str):
                self.raises(BadText(0), House.read, thing)

    def test_first_line(self):
        for text in ["", "house", "house 0", "house 7", "house 02", "house  2", "house 2 ", " house 2", "House 2", "board 2", "house 2/1", "house -1", "house x", "house 2\t", "house 2 2"]:
            self.raises(BadText(1), House.read, text)
            self.raises(BadText(1), House.read, text + "\nnonsense")

    def test_bad_lines(self):
        """Each text with the number of its first line that is not as described."""
        texts = [
            ("house 2\n", 2), ("house 2\n\nboard a", 2), ("house 2\nboard", 2), ("house 2\nboard A", 2), ("house 2\nboard a b", 2), ("house 2\nboard abcdefghijklm", 2),
            ("house 2\nboard  a", 2), ("house 2\nboard a ", 2), ("house 2\nmeet 0", 2), ("house 2\n1 0 | 0", 2), ("house 2\nboard a\nmeet 1", 3), ("house 2\nboard a\n1 0 | 0", 3),
            ("house 2\nwish a\nmeet 0", 3), ("house 2\nwish a\n2/2 0 | 0", 3), ("house 2\nwish a\n0 0 | 0", 3), ("house 2\nwish a\n1 0 | 1\n1 0 | 0", 4), ("house 2\nwish a\n1 0 | 1\n2 0 | 1", 4),
            ("house 2\nboard a\nboard a", 3), ("house 2\nboard b\nwish a", 3), ("house 2\nwish b\nmeet 0\nboard a", 3), ("house 2\nboard a\nwish a", 3), ("house 2\nboard a\ndown 0 2/4", 3),
            ("house 2\nboard a\nwish b\nnever b\nwish c", 5), ("house 2\nboard a\nwish b\nnever b\n1 0 | 0", 5), ("house 2\nboard a\ndraws a (())\nmeet 0", 4), ("house 2\nnever w", 2),
            ("house 2\nboard a\nnever a", 3), ("house 2\nwish a\nnever b", 3), ("house 2\nwish a\nnever", 3), ("house 2\nwish a\nnever a a", 3), ("house 2\nwish a\nalike a", 3),
            ("house 2\nwish a\natleast a 1", 3), ("house 2\nwish a\natleast a 2/2 a", 3), ("house 2\nwish a\natleast a * a", 3), ("house 2\nwish a\natleast a 1 b", 3), ("house 2\nwish a\nat least a 1 a", 3),
            ("house 2\nboard b\nwish w\nbetween w b 1", 4), ("house 2\nboard b\nwish w\nbetween b w * *", 4), ("house 2\nboard b\nwish w\nbetween w b 2/4 *", 4),
            ("house 2\nboard b\nwish w\nbetween w b * None", 4), ("house 2\nboard b\nwish w\nbetween w b * * *", 4), ("house 2\nboard b\ndraws b", 3), ("house 2\nboard b\ndraws b ", 3),
            ("house 2\nboard b\ndraws b - -", 3), ("house 2\nboard b\ndraws b ()", 3), ("house 2\nboard b\ndraws b ()()()", 3), ("house 2\nboard b\ndraws b (()) ()()", 3),
            ("house 2\nboard b\ndraws b (()) (())", 3), ("house 2\nboard b\ndraws b (())(", 3), ("house 2\nboard b\ndraws b )()(", 3), ("house 2\nwish b\ndraws b -", 3),
            ("house 2\nwish a\nnever a\nnever a", 4), ("house 2\nwish a\natleast a 1 a\nnever a\natleast a 1 a", 5), ("house 2\nwish a\nnever a\n", 4), ("house 2\nwish a\nnever a\nboard b", 4),
            ("house 2\nboard house\nhouse 2", 3), ("house 2\nwish a\nnever a ", 3), ("house 2\nwish a\n never a", 3), ("house 2\nboard a\nkept a", 3),
        ]
        for text, line in texts:
            self.raises(BadText(line), House.read, text)

    def test_promises_that_are_not_kept(self):
        head = "house 2\nboard a\ndown 0 a\nboard b\nwish v\n1 0 | 1\nwish w\n1 0 | 0\n"
        for lines, line in [("atleast v 1 w", 9), ("never v\natleast v 1 w", 10), ("never v\nalike w v\natleast v 1 w", 10), ("between v b 1 *", 9), ("between v b 1 0\nnever v", 9),
                            ("between v a * *", 9), ("draws b -", 9), ("never v\ndraws b ()()\nnever w", 10)]:
            self.raises(BadText(line), House.read, head + lines)
        # All lines are looked at before any promise is.
        self.raises(BadText(11), House.read, head + "atleast v 1 w\nalike w v\nnever x")
        self.raises(BadText(10), House.read, head + "atleast v 1 w\natleast v 1 w")
        self.assertEqual(len(House.read(head + "never v\natleast w 1 v").promises()), 2)

    def test_texts_changed_in_one_place(self):
        """What is read back is written as it was read; all other texts are refused, in a line that they have."""
        text = "house 2\nboard m\nmeet 0\nwish w\n1/2 0 | 1\nnever w\nbetween w m * 2\ndraws m ()()"
        House.read(text)
        read = 0
        for other in changed_texts(text, signs="013 \n-/|*()amw"):
            try:
                house = House.read(other)
            except BadText as error:
                self.assertTrue(1 <= error.line <= other.count("\n") + 1)
                self.assertTrue(is_first_fault(other, error.line))
            else:
                read += 1
                self.assertEqual(str(house), other)
        self.assertGreater(read, 10)

    def test_lines_before_are_right(self):
        """What stands ahead of the first line that is not as described is the text of a house."""
        lines = FULL.split("\n")
        for at in range(1, len(lines)):
            for bad in ["", "nonsense", lines[at] + " ", " " + lines[at], lines[at] + "~", "never zz", "house 2"]:
                self.raises(BadText(at + 1), House.read, "\n".join(lines[:at] + [bad] + lines[at + 1:]))
            self.assertEqual(str(House.read("\n".join(lines[:at]))), "\n".join(lines[:at]))

    def test_great_names(self):
        house = House(2)
        for name in ("board", "wish", "never", "alike", "atleast", "between", "draws", "house", "meet", "abcdefghijkl"):
            house.change(("wish" if len(name) % 2 else "board", name, Wish(2, ()) if len(name) % 2 else M))
        house.change(("promise", ("alike", "never", "alike")))
        house.change(("promise", ("draws", "wish", (OPEN,))))
        self.assertEqual(House.read(str(house)), house)
        self.assertIn("alike never alike\ndraws wish ()()", str(house))

    def test_by_name(self):
        self.assertEqual(House.read(text="house 4"), House(4))
        straight_house = House(6)
        straight_house.change(("board", "s", straight(6)))
        straight_house.change(("promise", ("draws", "s", (straight_pairing(6),))))
        self.assertEqual(str(straight_house), "house 6\nboard s\ndraws s (((((())))))")
        self.assertEqual(House.read(str(straight_house)), straight_house)
        self.assertNotEqual(A, straight_house)


def is_first_fault(text, line):
    """Whether the lines ahead of one, without their promises that are not kept, are the text of a house."""
    lines = text.split("\n")[:line - 1]
    if not lines:
        return True
    kept = [own for own in lines if own.split(" ")[0] not in ("never", "alike", "atleast", "between", "draws")]
    return str(House.read("\n".join(kept))) == "\n".join(kept)
