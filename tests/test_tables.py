"""Tables and minors [3.2], and tables.py."""

import itertools

from tests.helpers import CompanyTest
from tests.samples import A, M, LONG_NUMBER, odd_things, random_board, random_boards
from tests.test_companies import bad_sets, sets, weight_of
from twocompanies.boards import Board
from twocompanies.companies import companies, sign_of, tangles
from twocompanies.drawing import behind, straight
from twocompanies.errors import BadRows, BadSets, OtherSizes, Unfilled
from twocompanies.sums import is_sum, minus, plus, sum_read, sum_text, times
from twocompanies.tables import Table, company_sum, entry, is_table, least_minor, minor, table_of, table_product
from twocompanies.ways import ways

ONE = (((), (1, 1)),)
SUMS = tuple(tuple(sum_read(text) for text in row) for row in [["a - b", "0", "1/2"], ["-a", "2", "b^2"], ["1", "c", "-1 + a*b"]])


def sum_of_ways(board, some):
    """The sum of the weights of some tuples of ways."""
    found = ()
    for tangle in some:
        found = plus(found, weight_of(board, tangle))
    return found


def slow_minor(table, rows, columns):
    """A minor, by going through all orders of the columns."""
    found = ()
    for order in itertools.permutations(columns):
        part = ONE
        for row, column in zip(rows, order):
            part = times(part, table[row][column])
        crossed = sum(1 for one, other in itertools.combinations(order, 2) if one > other)
        found = plus(found, part) if crossed % 2 == 0 else minus(found, part)
    return found


class Tables(CompanyTest):
    def test_examples(self):
        texts = [[sum_text(some) for some in row] for row in table_of(A)]
        self.assertEqual(texts, [["1 + 1/2*a", "a"], ["1/2", "1"]])
        self.gives(((ONE, ONE), (ONE, ONE)), table_of, M)
        self.gives(((ONE, ()), ((), ONE)), table_of, straight(2))
        self.gives("a", lambda table: sum_text(entry(table, 0, 1)), table_of(A))
        self.assertEqual(entry(column=0, row=1, table=SUMS), SUMS[1][0])

    def test_sums_of_ways(self):
        for board in random_boards(("a", "b"), 4, 6, 60):
            places = range(board.size)
            wanted = tuple(tuple(sum_of_ways(board, [(way,) for way in ways(board, i, j)]) for j in places) for i in places)
            self.gives(wanted, table_of, board)
            self.gives(True, is_table, table_of(board))

    def test_behind_is_the_product(self):
        for seed in range(40):
            one = random_board(seed, 1 + seed % 4, 4, ("a", "b"))
            other = random_board(seed + 100, 1 + seed % 4, 4, ("b", "c"))
            self.gives(table_of(behind(one, other)), table_product, table_of(one), table_of(other))
        self.raises(OtherSizes(), table_product, table_of(A), table_of(straight(3)))
        self.raises(OtherSizes(), table_product, SUMS, table_of(A))
        self.gives(SUMS, table_product, table_of(straight(3)), SUMS)
        self.gives(SUMS, table_product, SUMS, table_of(straight(3)))
        self.assertEqual(table_product(other=SUMS, one=table_of(straight(3))), SUMS)

    def test_is_table(self):
        for size in range(1, 10):
            self.gives(True, is_table, (((),) * size,) * size)
            self.gives(True, is_table, table_of(straight(size)))
        self.gives(False, is_table, (((),) * 10,) * 10)
        bad = [(), ((),), ((ONE,), (ONE,)), ((ONE, ONE), (ONE,)), ((ONE, ONE),), [[ONE]], ([ONE],), [(ONE,)], (((1, 1),),),
               ((1,),), ((((), (2, 2)),),), (((((), (2, 2)),),),), (((((), (0, 1)),),),), ((None,),), (None,), "a", SUMS[:2],
               (SUMS[0], SUMS[1], list(SUMS[2])), (SUMS[0], SUMS[1], SUMS[2][:2]), ((list(ONE),),)]
        for thing in bad + odd_things():
            if thing not in [((),)]:
                self.gives(False, is_table, thing)
        self.gives(False, is_table, ((),))
        self.gives(True, is_table, SUMS)


class Minors(CompanyTest):
    def test_examples(self):
        self.gives(ONE, minor, table_of(A), (0, 1), (0, 1))
        self.gives(ONE, company_sum, A, (0, 1), (0, 1))

    def test_all_orders(self):
        for table in [SUMS, table_of(A), table_of(random_board(3, 4, 8, ("a",)))]:
            for rows, columns in sets(len(table)):
                self.gives(slow_minor(table, rows, columns), minor, table, rows, columns)
            self.gives(ONE, minor, table, (), ())

    def test_sum_of_companies(self):
        for seed in range(40):
            board = random_board(seed, 2 + seed % 3, 5, ("a", "b"))
            table = table_of(board)
            for rows, columns in sets(board.size):
                wanted = sum_of_ways(board, companies(board, rows, columns))
                self.gives(wanted, company_sum, board, rows, columns)
                self.gives(wanted, minor, table, rows, columns)
                self.assertTrue(all(number[0] > 0 for _, number in wanted))

    def test_tangles_cancel_out(self):
        for seed in range(10):
            board = random_board(seed, 3, 4, ("a",))
            rows = (0, 1, 2)
            found = ()
            for tangle in tangles(board, rows, rows):
                part = sum_of_ways(board, [tangle])
                found = plus(found, part) if sign_of(board, rows, rows, tangle) == 1 else minus(found, part)
            self.gives(found, company_sum, board, rows, rows)

    def test_bad_sets(self):
        for rows, columns in bad_sets():
            self.raises(BadSets((rows, columns)), minor, table_of(A), rows, columns)
            self.raises(BadSets((rows, columns)), company_sum, A, rows, columns)
        self.assertEqual(minor(columns=(1,), rows=(0,), table=table_of(A)), company_sum(columns=(1,), rows=(0,), board=A))

    def test_least_minor(self):
        self.gives((2, (0, 1), (0, 1)), least_minor, M)
        self.gives((1, (0,), (1,)), least_minor, straight(2))
        self.gives((1, (1,), (0,)), least_minor, Board(2, (("down", 0, (1, 1)),)))
        self.gives(None, least_minor, Board(2, (("down", 0, (1, 1)), ("up", 0, (1, 1)))))
        self.gives(None, least_minor, straight(1))
        self.gives((1, (0,), (0,)), least_minor, Board(1, (("pass", 0, (0, 1)),)))
        self.raises(Unfilled("a"), least_minor, A)
        self.raises(Unfilled("b"), least_minor, Board(2, (("pass", 0, "c"), ("meet", 0), ("pass", 1, "b"))))
        for board in random_boards((), 4, 14, 80):
            table = table_of(board)
            wanted = [(len(rows), rows, columns) for rows, columns in sets(board.size) if minor(table, rows, columns) == ()]
            self.gives(min(wanted) if wanted else None, least_minor, board)

    def test_no_minor_is_zero(self):
        downs = [("down", k, (1, 1)) for last in range(5, 0, -1) for k in range(last)]
        ups = [("up", k, (1, 1)) for first in range(5) for k in range(4, first - 1, -1)]
        board = Board(6, tuple(downs[::-1] + ups))
        table = table_of(board)
        wanted = [(len(rows), rows, columns) for rows, columns in sets(6) if minor(table, rows, columns) == ()]
        self.gives(min(wanted) if wanted else None, least_minor, board)


class NumberTables(CompanyTest):
    def test_bad_rows(self):
        one = (1, 1)
        for rows in [None, True, 0, (), [], [[one]], [(one,)], "a", {}, ((one,) * 10,) * 10, A, ((),) * 10, LONG_NUMBER]:
            self.raises(BadRows(-1), Table, rows)
        good = (one, (0, 1), (-2, 4))
        for bad in [(), (one,), (one, one), (one,) * 4, [one] * 3, None, "abc", (one, one, 1), (one, one, (1, 0)), A,
                    (one, one, (True, 1)), (one, one, (1, True)), (one, one, [1, 1]), (one, one, None), (one, one, "a"), (ONE,) * 3]:
            self.raises(BadRows(0), Table, (bad, good, good))
            self.raises(BadRows(1), Table, (good, bad, good))
            self.raises(BadRows(2), Table, (good, good, bad))
            self.raises(BadRows(1), Table, (good, bad, bad))
        self.raises(BadRows(0), Table, (one,))
        self.raises(BadRows(0), Table, ((),))
        for thing in odd_things():
            self.raises(BadRows(0), Table, (thing, thing))

    def test_attributes(self):
        table = Table((((2, 4), (0, 9)), ((-6, 4), (5, 1))))
        self.gives((((1, 2), (0, 1)), ((-3, 2), (5, 1))), lambda: table.rows)
        self.gives(2, lambda: table.size)
        self.gives(((((), (1, 2)),), ()), lambda: table.sums()[0])
        self.gives(((((), (-3, 2)),), (((), (5, 1)),)), lambda: table.sums()[1])
        self.gives(True, is_table, table.sums())
        for size in range(1, 10):
            self.gives(size, lambda n: Table((((n, 3),) * n,) * n).size, size)
        self.assertEqual(Table(rows=(((1, 1),),)).size, 1)

    def test_equality(self):
        table = Table((((2, 4), (0, 9)), ((-6, 4), (5, 1))))
        self.assertTrue(table == Table((((1, 2), (0, 1)), ((-3, 2), (5, 1)))))
        self.assertFalse(table != Table((((1, 2), (0, 1)), ((-3, 2), (5, 1)))))
        for other in odd_things() + [table.rows, table.sums(), Table((((1, 2),),)), Table((((1, 2), (0, 1)), ((3, 2), (5, 1)))), A]:
            self.assertIs(table == other, False)
            self.assertIs(table != other, True)
            self.assertIs(other == table, False)

    def test_sums_are_sums(self):
        for row in Table((((0, 5), (4, 2)), ((-1, 3), (7, 7)))).sums():
            self.assertTrue(all(is_sum(some) for some in row))
