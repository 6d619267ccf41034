"""Terms and sums [3.1], their texts [3.3], and sums.py."""

import random
from fractions import Fraction

from tests.helpers import CompanyTest
from tests.samples import A, LONG_NUMBER, changed_texts, odd_things
from twocompanies.errors import BadFilling, BadText, Unfilled
from twocompanies.sums import (by_filling, is_plain_number, is_sum, is_term, letter_sum, minus, number_of, number_sum,
                               plus, power, scaled, sum_read, sum_text, times)

ONE = (((), (1, 1)),)
S = (((), (1, 2)), ((("a", 1),), (-3, 1)), ((("a", 2), ("b", 1)), (1, 1)))


def random_sum(source, most=5):
    """A sum with up to so many terms."""
    terms = {}
    for _ in range(source.randint(0, most)):
        letters = sorted(source.sample(["a", "b", "ab", "zz"], source.randint(0, 3)))
        number = Fraction(source.randint(-6, 6), source.randint(1, 5))
        if number != 0:
            terms[tuple((letter, source.randint(1, 3)) for letter in letters)] = (number.numerator, number.denominator)
    return tuple(sorted(terms.items()))


def as_dict(some):
    """A sum as fractions by dicts of exponents, made hashable."""
    return {frozenset(letters): Fraction(*number) for letters, number in some}


def slow_plus(one, other, factor):
    found = dict(one)
    for letters, number in other.items():
        found[letters] = found.get(letters, 0) + factor * number
    return {letters: number for letters, number in found.items() if number != 0}


def slow_times(one, other):
    found = {}
    for left, number in one.items():
        for right, factor in other.items():
            powers = dict(left)
            for letter, exponent in right:
                powers[letter] = powers.get(letter, 0) + exponent
            key = frozenset(powers.items())
            found[key] = found.get(key, 0) + number * factor
    return {letters: number for letters, number in found.items() if number != 0}


class Kinds(CompanyTest):
    def test_terms(self):
        good = [((), (1, 1)), ((), (-3, 2)), ((("a", 1),), (2, 1)), ((("a", 12), ("b", 1)), (1, 3)),
                ((("a", LONG_NUMBER), ("ab", 1), ("b", 2)), (LONG_NUMBER, 1)), ((("abcdefgh", 1),), (1, 1))]
        for thing in good:
            self.gives(True, is_term, thing)
        bad = [((), (0, 1)), ((), (2, 4)), ((), (1, 0)), ((), (1, -1)), ((), (True, 1)), ((), (1, True)), ((), [1, 1]),
               ((), 1), ((), None), ((),), ((), (1, 1), ()), [(), (1, 1)], ([], (1, 1)), ((("a", 0),), (1, 1)),
               ((("a", -1),), (1, 1)), ((("a", True),), (1, 1)), ((("a", "1"),), (1, 1)), ((("A", 1),), (1, 1)),
               ((("", 1),), (1, 1)), ((("abcdefghi", 1),), (1, 1)), ((("b", 1), ("a", 1)), (1, 1)),
               ((("a", 1), ("a", 2)), (1, 1)), ((["a", 1],), (1, 1)), ((("a",),), (1, 1)), ((("a", 1, 1),), (1, 1)),
               (("a", 1), (1, 1)), ("a", (1, 1)), ((), (-2, 4)), ((), (0, 5)), (None, (1, 1)), ((), (1, 1, 1)), S, ()]
        for thing in bad + odd_things():
            self.gives(False, is_term, thing)

    def test_sums(self):
        for thing in [(), ONE, S, (((), (3, 1)),), (((("a", 1),), (1, 1)), ((("a", 1), ("b", 1)), (1, 1)),
                                                    ((("a", 2),), (1, 1)), ((("aa", 1),), (-1, 1)))]:
            self.gives(True, is_sum, thing)
        bad = [S[::-1], S + S[-1:], S[:1] + S, (((), (1, 1)), ((), (2, 1))), list(S), S[1], ((), (1, 1)), (((), (2, 2)),),
               (((), (0, 1)),), (((), (1, True)),), (None,), (((), (1, 1)), None), ((("a", 1), (1, 1)),), 0, "0", None, 1,
               (((("a", 2),), (1, 1)), ((("a", 1), ("b", 1)), (1, 1))), ([(), (1, 1)],), A, (A,)]
        for thing in bad + [some for some in odd_things() if some != ()]:
            self.gives(False, is_sum, thing)


class Arithmetic(CompanyTest):
    def test_numbers_and_letters(self):
        self.gives((), number_sum, (0, 1))
        self.gives((), number_sum, (0, 7))
        self.gives((((), (3, 1)),), number_sum, (3, 1))
        self.gives((((), (-3, 2)),), number_sum, (-6, 4))
        self.gives((((("abc", 1),), (1, 1)),), letter_sum, "abc")

    def test_against_fractions(self):
        source = random.Random(1)
        for _ in range(300):
            one, other = random_sum(source), random_sum(source)
            number = (source.randint(-6, 6), source.randint(1, 6))
            for wanted, found in [
                    (slow_plus(as_dict(one), as_dict(other), 1), plus(one, other)),
                    (slow_plus(as_dict(one), as_dict(other), -1), minus(one, other)),
                    (slow_times(as_dict(one), as_dict(other)), times(one, other)),
                    (slow_plus({}, as_dict(one), Fraction(*number)), scaled(number, one))]:
                self.assertTrue(is_sum(found))
                self.assertEqual(as_dict(found), wanted)
            self.gives((), minus, one, one)
            self.gives((), times, one, ())
            self.gives(one, times, ONE, one)
            self.gives((), scaled, (0, 3), one)

    def test_power(self):
        source = random.Random(2)
        for _ in range(20):
            some = random_sum(source, 3)
            wanted = ONE
            for many in range(5):
                self.gives(wanted, power, some, many)
                wanted = times(wanted, some)
        for many in range(13):
            self.gives(ONE if many == 0 else (), power, (), many)
            self.gives((((), (2 ** many, 3 ** many)),), power, number_sum((2, 3)), many)
        self.assertEqual(len(power(sum_read("a + b + c + d"), 12)), 455)
        self.gives((((("a", 12),), (1, 1)),), power, letter_sum("a"), 12)

    def test_by_filling(self):
        self.gives((((), (2, 1)), ((("b", 1),), (1, 4))), by_filling, S, (("a", (-1, 2)),))
        self.gives((((), (25, 2)),), by_filling, S, (("a", (-4, 2)), ("b", (6, 4)), ("c", (1, 1))))
        self.gives((((), (1, 2)),), by_filling, S, (("a", (0, 3)),))
        self.gives((((), (1, 2)), ((("a", 1),), (-3, 1)), ((("a", 2),), (-5, 1))), by_filling, S, (("b", (-5, 1)),))
        self.gives(S, by_filling, S, ())
        self.gives(S, by_filling, S, (("zz", (0, 1)),))
        self.gives((), by_filling, (), (("zz", (0, 1)),))
        self.gives((), by_filling, sum_read("a - b"), (("a", (1, 3)), ("b", (2, 6))))
        self.gives((((("b", 1),), (2, 1)),), by_filling, sum_read("a*b + b"), (("a", (1, 1)),))
        self.gives(ONE, by_filling, sum_read("a^999999999999"), (("a", (1, 1)),))
        self.assertEqual(by_filling(filling=(), some=S), S)

    def test_bad_fillings(self):
        bad = [(("b", (1, 1)), ("a", (1, 1))), (("a", (1, 1)), ("a", (1, 1))), (("a", 1),), (("A", (1, 1)),),
               (["a", (1, 1)],), [("a", (1, 1))], ("a", (1, 1)), (("a", (1, 0)),), (("a", (True, 1)),), (("a", (1, 1), 1),),
               (("abcdefghi", (1, 1)),), {"a": (1, 1)}, None, (("a", "b"),), (("a", (1, -1)),)]
        for filling in bad + odd_things():
            if filling != ():
                self.raises(BadFilling(filling), by_filling, S, filling)
                self.raises(BadFilling(filling), by_filling, (), filling)

    def test_plain_numbers(self):
        self.gives((True, True, False, False), lambda: tuple(map(is_plain_number, [(), ONE, S, letter_sum("a")])))
        self.gives((0, 1), number_of, ())
        self.gives((-7, 2), number_of, number_sum((-7, 2)))
        self.raises(Unfilled("a"), number_of, S)
        self.raises(Unfilled("aa"), number_of, sum_read("2 + aa*z + b*c"))
        self.raises(Unfilled("b"), number_of, sum_read("b*z + c"))
        self.raises(Unfilled("a"), number_of, sum_read("a^2*c - b"))
        self.raises(Unfilled("b"), number_of, letter_sum("b"))

    def test_by_name(self):
        self.assertEqual(plus(other=ONE, one=()), ONE)
        self.assertEqual(minus(other=ONE, one=ONE), ())
        self.assertEqual(times(other=ONE, one=S), S)
        self.assertEqual(scaled(some=S, number=(1, 1)), S)
        self.assertEqual(power(many=0, some=S), ONE)
        self.assertEqual(number_of(some=number_sum(number=(1, 1))), (1, 1))
        self.assertEqual(sum_read(text=sum_text(some=letter_sum(letter="a"))), letter_sum("a"))
        self.assertTrue(is_term(thing=S[0]) and is_sum(thing=S) and is_plain_number(some=()))


class Texts(CompanyTest):
    def test_texts(self):
        self.gives("-1/2*a + b", lambda: sum_text(plus(letter_sum("b"), scaled((-1, 2), letter_sum("a")))))
        self.gives("1/2 - 3*a + a^2*b", sum_text, S)
        self.gives(S, sum_read, "1/2 - 3*a + a^2*b")
        for text, some in [("0", ()), ("1", ONE), ("-1", number_sum((-1, 1))), ("-a", scaled((-1, 1), letter_sum("a"))),
                           ("a", letter_sum("a")), ("-1/3*a^2", (((("a", 2),), (-1, 3)),)),
                           ("1 - a", (((), (1, 1)), ((("a", 1),), (-1, 1)))),
                           ("-1 - 1/2*a - a^12*b", (((), (-1, 1)), ((("a", 1),), (-1, 2)), ((("a", 12), ("b", 1)), (-1, 1))))]:
            self.gives(text, sum_text, some)
            self.gives(some, sum_read, text)

    def test_texts_are_read_back(self):
        source = random.Random(3)
        for _ in range(300):
            some = random_sum(source, 6)
            self.gives(some, sum_read, sum_text(some))
        great = (((), (LONG_NUMBER, 2)), ((("a", LONG_NUMBER),), (1, LONG_NUMBER)))
        self.gives(great, sum_read, sum_text(great))
        large = power(sum_read("-1/2 + a + abc - b"), 9)
        self.gives(large, sum_read, sum_text(large))

    def test_no_texts(self):
        bad = ["", " ", "-", "+", "+1", "-0", "00", "01", "1/1", "2/4", "0/1", "1/0", "1/-2", "1/02", "--1", "- 1", "-+1", "1.5",
               "1*a", "-1*a", "a*1", "a*2", "a^1", "a^0", "a^-1", "a^02", "a^", "^2", "a^2^2", "a^b", "a*a", "b*a", "A", "abcdefghi",
               "a b", "a  + b", "a +b", "a+ b", "a+b", "a + ", " + a", "a +", "+ a", "a + -b", "a - -b", "a + 0", "0 + a", "0*a",
               "b + a", "a + 1", "a + a", "1 + 1", "a^2 + a", "a^2 + a*b", "a + b\n", "\na", "a\n+ b", "1 2", "1 * a", "a * b", "a**b",
               "*a", "a*", "1/2/3", "a/2", "1 / 2", "2*-a", "1_0", "a - b - a", "0 ", " 0", "a + + b", "a + b +", "2a", "a2",
               "\u0661", "a^\u0662", "1e3", "x - y + ", "- a", "(a)", "3 a", "1*1"]
        for text in bad:
            self.raises(BadText(0), sum_read, text)
        for thing in odd_things() + [S, (), ONE, 1, (0, 1), ["a"], A]:
            if not isinstance(thing, str):
                self.raises(BadText(0), sum_read, thing)

    def test_texts_changed_in_one_place(self):
        for text in ["1/2 - 3*a + a^2*b", "-1 + 10*ab^11", "0", "-a"]:
            for changed in changed_texts(text):
                try:
                    some = sum_read(changed)
                except BadText as error:
                    self.assertEqual(error.line, 0)
                else:
                    self.assertTrue(is_sum(some))
                    self.assertEqual(sum_text(some), changed)
