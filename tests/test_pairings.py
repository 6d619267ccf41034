"""The rim [4.1], pairings [4.2], joined [4.3], turned [4.4], and pairings.py."""

import itertools

from tests.helpers import CompanyTest
from tests.samples import A, changed_texts, odd_things
from twocompanies.errors import BadPairing, BadSize, BadText, OtherSizes
from twocompanies.pairings import (heights, is_above, is_pairing, joined, pairing_backwards, pairing_below, pairing_read,
                                   pairing_text, pairing_upside_down, pairings, partner, rim_of_column, rim_of_row,
                                   size_of, straight_pairing, through)

OPEN = ((0, 1), (2, 3))
NEST = ((0, 3), (1, 2))
BAD = [((0, 2), (1, 3)), ((2, 3), (0, 1)), ((1, 0), (2, 3)), ((0, 1), (0, 1)), ((0, 1), (1, 2)), ((0, 1), (2, 4)),
       ((-1, 0), (1, 2)), ((0, 1), (3, 2)), [(0, 1), (2, 3)], ([0, 1], [2, 3]), ((0, 1), [2, 3]), ((False, True), (2, 3)),
       ((0, True), (2, 3)), ((False, 1), (2, 3)), ((0, 1), (2, 3, 4)), ((0, 1), (2,)), ((0, 1), (2, "3")), ((0, 1), None),
       ((0, 1), (4, 5)), (0, 1), (0, 1, 2, 3), "()()", ((0, 1), (2, 3), None), ((0, 1), (2, 2)), ((0, 3),), ((1, 2), (0, 3))]
SEVEN = tuple((2 * at, 2 * at + 1) for at in range(7))


def slow_pairings(size):
    """All pairings of a size, in order, by trying all ways to pair the rim places."""
    if size == 0:
        return ((),)
    return tuple(thing for thing in matchings(tuple(range(2 * size))) if all(
        not a < c < b < d for (a, b), (c, d) in itertools.permutations(thing, 2)))


def matchings(places):
    if not places:
        yield ()
        return
    for other in places[1:]:
        for rest in matchings(tuple(place for place in places[1:] if place != other)):
            yield ((places[0], other),) + rest


def slow_joined(one, other):
    """Joined by marking what is connected, kept apart from the package's way to do it."""
    size = len(one)
    edges = {}
    for side, pairing in (("left", one), ("right", other)):
        for a, b in pairing:
            edges.setdefault((side, a), []).append((side, b))
            edges.setdefault((side, b), []).append((side, a))
    for j in range(size):
        edges[("left", 2 * size - 1 - j)].append(("right", j))
        edges[("right", j)].append(("left", 2 * size - 1 - j))
    groups, seen = [], set()
    for start in edges:
        if start not in seen:
            group, waiting = set(), [start]
            while waiting:
                at = waiting.pop()
                if at not in group:
                    group.add(at)
                    waiting.extend(edges[at])
            seen |= group
            groups.append(group)
    pairs, rings = [], 0
    for group in groups:
        ends = sorted(p for side, p in group if (side == "left") == (p < size))
        if ends:
            pairs.append(tuple(ends))
        else:
            rings += 1
    return tuple(sorted(pairs)), rings


class Kinds(CompanyTest):
    def test_all_of_a_size(self):
        for size, many in zip(range(1, 7), (1, 2, 5, 14, 42, 132)):
            found = pairings(size)
            self.assertEqual(len(found), many)
            self.assertEqual(found, tuple(sorted(found)))
            if size < 6:
                self.gives(slow_pairings(size), pairings, size)
            for pairing in found:
                self.gives(True, is_pairing, size, pairing)
                self.gives(False, is_pairing, size + 1, pairing)
                self.gives(size, size_of, pairing)
        self.gives((OPEN, NEST), pairings, 2)
        self.assertEqual([pairing_text(some) for some in pairings(2)], ["()()", "(())"])
        self.assertEqual([pairing_text(some) for some in pairings(3)], ["()()()", "()(())", "(())()", "(()())", "((()))"])

    def test_bad_sizes(self):
        for size in odd_things() + [0, 7, "2", (2,)]:
            self.raises(BadSize(size), pairings, size)
            self.raises(BadSize(size), straight_pairing, size)

    def test_is_pairing(self):
        for thing in BAD + odd_things():
            self.gives(False, is_pairing, 2, thing)
            self.gives(False, is_pairing, 3, thing)
        for thing in matchings(tuple(range(6))):
            self.gives(thing in pairings(3), is_pairing, 3, thing)
        self.gives(False, is_pairing, 1, ())
        self.gives(False, is_pairing, 1, ((0, 2),))
        self.gives(True, is_pairing, 1, ((0, 1),))

    def test_straight(self):
        for size in range(1, 7):
            straight = straight_pairing(size)
            self.gives(tuple((row, 2 * size - 1 - row) for row in range(size)), straight_pairing, size)
            self.gives(tuple((row, row) for row in range(size)), through, straight)
            self.gives("(" * size + ")" * size, pairing_text, straight)
            self.assertTrue(all(is_above(straight, other) for other in pairings(size)))

    def test_rim(self):
        for size in range(1, 7):
            self.gives(tuple(range(size)), lambda n: tuple(rim_of_row(n, row) for row in range(n)), size)
            wanted = tuple(range(2 * size - 1, size - 1, -1))
            self.gives(wanted, lambda n: tuple(rim_of_column(n, column) for column in range(n)), size)
        self.assertEqual((rim_of_row(row=1, size=3), rim_of_column(column=1, size=3)), (1, 4))


class Looks(CompanyTest):
    def test_heights(self):
        self.gives((0, 1, 0, 1, 0), heights, OPEN)
        self.gives((0, 1, 2, 1, 0), heights, NEST)
        for pairing in pairings(4):
            wanted = tuple(sum(1 for a, b in pairing if a < t <= b) for t in range(9))
            self.gives(wanted, heights, pairing)

    def test_is_above(self):
        for size in range(1, 5):
            for one in pairings(size):
                for other in pairings(size):
                    wanted = all(high >= low for high, low in zip(heights(one), heights(other)))
                    self.gives(wanted, is_above, one, other)
                self.gives(True, is_above, one, one)
        self.gives((True, False), lambda: (is_above(NEST, OPEN), is_above(OPEN, NEST)))

    def test_partner_and_through(self):
        for pairing in pairings(4):
            for a, b in pairing:
                self.gives(b, partner, pairing, a)
                self.gives(a, partner, pairing, b)
            wanted = tuple(sorted((a, 7 - b) for a, b in pairing if a < 4 <= b))
            self.gives(wanted, through, pairing)
        self.gives(((2, 0),), through, ((0, 1), (2, 5), (3, 4)))
        self.gives((), through, OPEN)

    def test_texts(self):
        for size in range(1, 7):
            for pairing in pairings(size):
                text = pairing_text(pairing)
                self.assertEqual([text[a] + text[b] for a, b in pairing], ["()"] * size)
                self.gives(pairing, pairing_read, text)
        bad = ["", "(", ")", ")(", "(()", "())", "()(", "() ()", "()\n", " ()", "[]", "()" * 7, "(" * 7 + ")" * 7, "((", "))((", "ab",
               "())(()", "((((((((((((", "(a)", "()()()x"]
        for text in bad:
            self.raises(BadText(0), pairing_read, text)
        for thing in odd_things() + [OPEN, ("(", ")"), ["()"], A]:
            self.raises(BadText(0), pairing_read, thing)
        right = {pairing_text(pairing): pairing for size in range(1, 7) for pairing in pairings(size)}
        for text in changed_texts("(()())", "() \na"):
            if text in right:
                self.gives(right[text], pairing_read, text)
            else:
                self.raises(BadText(0), pairing_read, text)


class Turned(CompanyTest):
    def test_joined(self):
        self.gives((OPEN, 1), joined, OPEN, OPEN)
        self.gives((NEST, 0), joined, NEST, NEST)
        first = ((0, 1), (2, 3), (4, 5))
        second = ((0, 5), (1, 2), (3, 4))
        self.gives((((0, 1), (2, 5), (3, 4)), 0), joined, first, second)
        self.gives((first, 0), lambda: joined(joined(first, second)[0], first))
        for size in range(1, 5):
            for one in pairings(size):
                for other in pairings(size):
                    self.gives(slow_joined(one, other), joined, one, other)
        for one, other in itertools.product(pairings(6)[::9], pairings(6)[::7]):
            self.gives(slow_joined(one, other), joined, one, other)

    def test_joining_is_associative(self):
        for one, two, three in itertools.product(pairings(3), repeat=3):
            left, right = joined(one, two), joined(two, three)
            before, after = joined(left[0], three), joined(one, right[0])
            self.assertEqual((before[0], before[1] + left[1]), (after[0], after[1] + right[1]))

    def test_straight_changes_nothing(self):
        for pairing in pairings(5):
            self.gives((pairing, 0), joined, pairing, straight_pairing(5))
            self.gives((pairing, 0), joined, straight_pairing(5), pairing)

    def test_backwards_and_upside_down(self):
        for size in range(1, 7):
            back = {rim_of_row(size, i): rim_of_column(size, i) for i in range(size)}
            back.update({rim_of_column(size, i): rim_of_row(size, i) for i in range(size)})
            down = {rim_of_row(size, i): rim_of_row(size, size - 1 - i) for i in range(size)}
            down.update({rim_of_column(size, i): rim_of_column(size, size - 1 - i) for i in range(size)})
            for pairing in pairings(size):
                for places, call in ((back, pairing_backwards), (down, pairing_upside_down)):
                    wanted = tuple(sorted(tuple(sorted((places[a], places[b]))) for a, b in pairing))
                    self.gives(wanted, call, pairing)
                    self.gives(True, is_pairing, size, wanted)
        self.gives(((0, 3), (1, 2), (4, 5)), pairing_backwards, ((0, 1), (2, 5), (3, 4)))
        self.gives(((0, 3), (1, 2), (4, 5)), pairing_upside_down, ((0, 1), (2, 5), (3, 4)))

    def test_below(self):
        self.gives(NEST, pairing_below, ((0, 1),), ((0, 1),))
        self.gives(((0, 1), (2, 3), (4, 5), (6, 7)), pairing_below, OPEN, OPEN)
        self.gives(((0, 1), (2, 5), (3, 4), (6, 7)), pairing_below, OPEN, NEST)
        for n in range(1, 6):
            for m in range(1, 7 - n):
                for one, other in itertools.product(pairings(n)[::4], pairings(m)[::4]):
                    self.check_below(one, other, n, m)
        self.raises(BadSize(7), pairing_below, straight_pairing(6), ((0, 1),))
        self.raises(BadSize(12), pairing_below, straight_pairing(6), straight_pairing(6))
        self.raises(BadPairing(SEVEN), pairing_below, straight_pairing(6), SEVEN)

    def check_below(self, one, other, n, m):
        size = n + m
        pairs = [tuple(sorted(place if place < n else place + 2 * m for place in pair)) for pair in one]
        named = []
        for pair in other:
            ends = [(n + p) if p < m else rim_of_column(size, n + 2 * m - 1 - p) for p in pair]
            named.append(tuple(sorted(ends)))
        wanted = tuple(sorted(pairs + named))
        self.gives(wanted, pairing_below, one, other)
        self.gives(True, is_pairing, size, wanted)


class Errors(CompanyTest):
    def test_bad_pairings(self):
        for thing in BAD + odd_things() + [(), SEVEN, 2]:
            for call in (size_of, heights, through, pairing_text, pairing_backwards, pairing_upside_down):
                self.raises(BadPairing(thing), call, thing)
            self.raises(BadPairing(thing), partner, thing, 0)
            for call in (is_above, joined, pairing_below):
                self.raises(BadPairing(thing), call, thing, OPEN)
                self.raises(BadPairing(thing), call, OPEN, thing)
                self.raises(BadPairing(thing), call, thing, None)
                self.raises(BadPairing(thing), call, straight_pairing(6), thing)

    def test_other_sizes(self):
        for call in (is_above, joined):
            self.raises(OtherSizes(), call, OPEN, straight_pairing(3))
            self.raises(OtherSizes(), call, straight_pairing(6), ((0, 1),))
            self.raises(BadPairing(SEVEN), call, OPEN, SEVEN)

    def test_by_name(self):
        self.assertEqual(joined(other=NEST, one=OPEN), (OPEN, 0))
        self.assertTrue(is_above(other=OPEN, one=NEST))
        self.assertEqual(pairing_below(other=((0, 1),), one=((0, 1),)), NEST)
        self.assertEqual(partner(place=0, pairing=NEST), 3)
        self.assertEqual(pairing_read(text=pairing_text(pairing=OPEN)), OPEN)
        self.assertEqual(size_of(pairing=OPEN), len(pairings(size=2)))
        self.assertEqual(straight_pairing(size=2), NEST)
        self.assertTrue(is_pairing(thing=NEST, size=2))
        self.assertEqual(heights(pairing=NEST), (0, 1, 2, 1, 0))
        self.assertEqual(through(pairing=NEST), ((0, 0), (1, 1)))
        self.assertEqual(pairing_backwards(pairing=NEST), pairing_upside_down(pairing=NEST))
