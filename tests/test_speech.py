"""Speech [6.5] and speech.py."""

import itertools
import math
import random
import re
from fractions import Fraction

from tests.helpers import CompanyTest
from tests.samples import LONG_NUMBER, A, changed_texts, odd_things, random_board
from twocompanies.errors import BadSpeech
from twocompanies.products import product_of, products
from twocompanies.speech import spoken
from twocompanies.wishes import Wish, one_product, whole, wish_minus, wish_of, wish_plus, wish_times, worth

RESERVED = {"all", "in", "of", "sum", "let", "size", "wish"}
COUNTS_3000 = "sum x of 3 in all : sum y of 2 in all : sum z of 2 in 0 1 2 3 4 : [ x | 0 y ]"


def is_number_word(word):
    """Whether a word is a number as texts write it, by what it looks like."""
    found = re.fullmatch(r"(0|-?[1-9][0-9]*)(?:/([1-9][0-9]*))?", word)
    if not found:
        return False
    top, bottom = found.groups()
    return bottom is None or (bottom != "1" and math.gcd(int(top), int(bottom)) == 1)


def is_set(words, size, scope):
    """Whether words are a SET."""
    items = {str(place) for place in range(size)} | {"all"} | set(scope) | {"~" + own for own in scope}
    return words == ["-"] or (words != [] and all(word in items for word in words))


def is_factor(words, size, names, scope, depth):
    """Whether words are a FACTOR, by trying all places at which it can be divided."""
    if len(words) == 1:
        return words[0] in names
    if words[:1] == ["["] and words[-1:] == ["]"]:
        bars = [at for at, word in enumerate(words) if word == "|"]
        return any(is_set(words[1:at], size, scope) and is_set(words[at + 1:-1], size, scope) for at in bars)
    if words[:1] == ["("] and words[-1:] == [")"]:
        return depth < 8 and is_expression(words[1:-1], size, names, scope, depth + 1)
    if len(words) > 6 and words[0] == "sum" and words[2] == "of" and words[4] == "in":
        if not re.fullmatch("[a-z]{1,8}", words[1]) or words[1] in RESERVED or not re.fullmatch("[0-6]", words[3]):
            return False
        colons = [at for at, word in enumerate(words) if word == ":"]
        inner = [*scope, words[1]]
        return depth < 8 and any(is_set(words[5:at], size, scope) and is_factor(words[at + 1:], size, names, inner, depth + 1)
                                 for at in colons)
    return False


def is_term(words, size, names, scope, depth):
    return is_factor(words, size, names, scope, depth) or (
        words != [] and is_number_word(words[0]) and is_factor(words[1:], size, names, scope, depth))


def is_expression(words, size, names, scope=(), depth=0):
    """Whether words are an EXPR, whatever it counts."""
    if is_term(words, size, names, scope, depth):
        return True
    signs = [at for at, word in enumerate(words) if word in ("+", "-")]
    return any(is_term(words[at + 1:], size, names, scope, depth) and is_expression(words[:at], size, names, scope, depth)
               for at in signs)


def first_fault(text):
    """The number of the first line that is not as described, None for a speech; what lines count is not looked at."""
    lines = text.split("\n")
    if not re.fullmatch("size [1-6]", lines[0]):
        return 1
    size, names = int(lines[0][5:]), set()
    for number, line in enumerate(lines[1:], 2):
        words = line.split(" ")
        if words[0] == "wish":
            if not is_expression(words[1:], size, names):
                return number
            return number + 1 if number < len(lines) else None
        if words[0] != "let" or len(words) < 4 or not re.fullmatch("[A-Z]{1,8}", words[1]) or words[2] != "=":
            return number
        if not is_expression(words[3:], size, names):
            return number
        names.add(words[1])
    return len(lines) + 1


class Maker:
    """Makes EXPRs at random, each as a pair of its text and what it is worth for given sets of the VARs.

    The worth is a pair of a list of pairs (product, number) and of what the EXPR counts.
    """

    def __init__(self, seed, size):
        self.source = random.Random(seed)
        self.size = size
        self.names = {}
        self.wild = seed % 5 == 0

    def item(self, scope):
        kind = self.source.choice(["place", "place", "all", "var", "rest"] if scope else ["place", "place", "place", "all"])
        if kind == "place":
            place = self.source.randrange(self.size)
            return str(place), lambda known: [place]
        if kind == "all":
            return "all", lambda known: list(range(self.size))
        var = self.source.choice(scope)
        if kind == "var":
            return var, lambda known: list(known[var])
        return "~" + var, lambda known: [place for place in range(self.size) if place not in known[var]]

    def set(self, scope):
        items = [self.item(scope) for _ in range(self.source.choice([0, 1, 1, 1, 2]))]
        text = " ".join(text for text, _ in items) or "-"
        return text, lambda known: [place for _, give in items for place in give(known)]

    def product(self, scope):
        rows, columns = self.set(scope), self.set(scope)

        def give(known):
            one, other = sorted(rows[1](known)), sorted(columns[1](known))
            if len(one) != len(other) or len(set(one)) < len(one) or len(set(other)) < len(other):
                return [], 1
            return [(product_of(self.size, tuple(one), tuple(other)), Fraction(1))], 1
        return f"[ {rows[0]} | {columns[0]} ]", give

    def sum(self, scope, depth):
        var, many = self.source.choice(["x", "y", "abcdefgh"]), self.source.choice([0, 1, 1, 2, 3])
        places, inner = self.set(scope), self.factor([*scope, var], depth + 1)
        if self.source.random() < (0.9 if self.wild else 0.5):
            places = "all", lambda known: list(range(self.size))

        def give(known):
            some = sorted(places[1](known))
            chosen = list(itertools.combinations(some, many))
            if len(set(some)) < len(some) or not chosen:
                return [], 1
            parts, count = [], 0
            for own in chosen:
                more, counted = inner[1]({**known, var: own})
                parts, count = parts + more, count + counted
            return parts, count
        return f"sum {var} of {many} in {places[0]} : {inner[0]}", give

    def factor(self, scope, depth):
        kind = self.source.choice(["product", "product", "name", "brackets", "sum", "sum"] + ["sum"] * (20 if self.wild else 0))
        if kind == "name" and self.names:
            name = self.source.choice(sorted(self.names))
            parts = self.names[name]
            return name, lambda known: (parts, 1)
        if kind == "sum" and depth < 4:
            return self.sum(scope, depth)
        if kind == "brackets" and depth < 4:
            text, give = self.expression(scope, depth + 1)
            return f"( {text} )", give
        return self.product(scope)

    def expression(self, scope=(), depth=0):
        texts, gives = [], []
        for at in range(self.source.choice([1, 1, 2, 3])):
            number, text = Fraction(1), ""
            if self.source.random() < 0.5:
                number = Fraction(self.source.randint(-4, 4), self.source.randint(1, 3))
                text = f"{number} "
            sign = self.source.choice(["+", "-"]) if at else "+"
            factor, give = self.factor(scope, depth)
            texts.append((f"{sign} " if at else "") + text + factor)
            gives.append((number if sign == "+" else -number, give))

        def give_all(known):
            parts, count = [], 0
            for number, give in gives:
                more, counted = give(known)
                parts, count = parts + [(product, number * own) for product, own in more], count + counted
            return parts, count
        return " ".join(texts), give_all

    def speech(self):
        """A speech, with its wish, or None and the number of the first line that counts too much."""
        lines = [f"size {self.size}"]
        for _ in range(self.source.randint(0, 3)):
            name = self.source.choice(["A", "B", "ABCDEFGH"])
            text, give = self.expression()
            lines.append(f"let {name} = {text}")
            self.names[name], count = give({})
            if count > 3000:
                return "\n".join([*lines, "wish [ 0 | 0 ]"]), None, len(lines)
        text, give = self.expression()
        lines.append("wish " + text)
        parts, count = give({})
        if count > 3000:
            return "\n".join(lines), None, len(lines)
        pairs = tuple((product, (number.numerator, number.denominator)) for product, number in parts)
        return "\n".join(lines), wish_of(self.size, pairs), None


class Examples(CompanyTest):
    def test_examples(self):
        wish = spoken("size 2\nlet D = [ 0 1 | 0 1 ]\nwish [ 0 | 0 ] - [ 0 | 1 ] - D")
        self.gives("wish 2\n1 0 | 0\n-1 0 | 1\n-1 0 1 | 0 1", str, wish)
        for seed in range(20):
            self.gives((), worth, wish, random_board(seed, 2, 6, ("a", "b")))
        three = Wish(3, tuple((((0,), (column,)), (1, 1)) for column in range(3)))
        self.gives(three, spoken, "size 3\nwish sum x of 1 in all : [ 0 | x ]")
        self.gives(Wish(3, ()), spoken, "size 3\nwish sum x of 1 in all : [ x | ~x ]")
        self.assertEqual(spoken(text="size 1\nwish [ 0 | 0 ]"), whole(1))

    def test_random_speeches(self):
        many = 0
        for seed in range(500):
            text, wish, fault = Maker(seed, 1 + seed % 6).speech()
            self.assertIsNone(first_fault(text))
            if fault is None:
                self.gives(wish, spoken, text)
            else:
                many += 1
                self.raises(BadSpeech(fault), spoken, text)
        self.assertGreater(many, 2)


class Forms(CompanyTest):
    def says(self, wanted, expression, size=3, lets=()):
        lines = [f"size {size}", *[f"let {let}" for let in lets]]
        self.gives(wanted, spoken, "\n".join([*lines, "wish " + expression]))
        self.gives(wanted, spoken, "\n".join([*lines, "let Z = " + expression, "wish Z"]))

    def test_products(self):
        for size in range(1, 5):
            for many in range(size + 1):
                for rows, columns in itertools.product(itertools.combinations(range(size), many), repeat=2):
                    text = [" ".join(map(str, places)) or "-" for places in (rows, columns)]
                    self.says(one_product(size, rows, columns), f"[ {text[0]} | {text[1]} ]", size)
        self.says(one_product(3, (0, 2), (0, 1)), "[ 2 0 | 1 0 ]")
        self.says(whole(3), "[ all | 2 1 0 ]")
        self.says(whole(3), "[ - | - ]")

    def test_zero_products(self):
        for text in ["[ 0 | - ]", "[ 0 1 | 2 ]", "[ 0 0 | 1 1 ]", "[ 0 0 | 1 2 ]", "[ 1 2 | 0 0 ]", "[ all 0 | all 0 ]", "[ all all | - ]",
                     "[ 0 1 2 0 | 0 1 2 ]", "[ 0 0 0 | all ]"]:
            self.says(Wish(3, ()), text)

    def test_sums_and_numbers(self):
        p, q = one_product(3, (0,), (0,)), one_product(3, (0, 1), (1, 2))
        one, other = "[ 0 | 0 ]", "[ 0 1 | 1 2 ]"
        self.says(wish_plus(p, q), f"{one} + {other}")
        self.says(wish_minus(p, q), f"{one} - {other}")
        self.says(wish_minus(wish_minus(p, q), q), f"{one} - {other} - {other}")
        self.says(p, f"{one} - {other} + {other}")
        self.says(wish_times((-2, 3), p), f"-2/3 {one}")
        self.says(wish_plus(wish_times((5, 1), p), wish_times((-1, 1), q)), f"5 {one} + -1 {other}")
        self.says(wish_plus(wish_times((5, 1), p), q), f"5 {one} - -1 {other}")
        self.says(Wish(3, ()), f"0 {one}")
        self.says(q, f"0 {one} + {other}")
        self.says(wish_times((LONG_NUMBER, 1), p), f"{LONG_NUMBER} {one}")
        self.says(Wish(3, ()), f"{one} - {one}")
        self.says(wish_times((1, 6), p), f"1/2 {one} - 1/3 {one}")

    def test_brackets(self):
        p, q = one_product(3, (0,), (0,)), one_product(3, (0, 1), (1, 2))
        one, other = "[ 0 | 0 ]", "[ 0 1 | 1 2 ]"
        self.says(p, f"{one} - ( {other} - {other} )")
        self.says(wish_times((-2, 1), wish_minus(p, q)), f"-2 ( {one} - {other} )")
        self.says(wish_times((6, 1), p), f"2 ( 3 ( {one} ) )")
        self.says(wish_plus(p, wish_times((4, 1), q)), f"( {one} ) + 2 ( 2 {other} )")

    def test_names(self):
        p, q = one_product(3, (0,), (0,)), one_product(3, (0, 1), (1, 2))
        lets = ("A = [ 0 | 0 ]", "ABCDEFGH = [ 0 1 | 1 2 ]", "B = 2 A - 1/2 ABCDEFGH")
        self.says(p, "A", lets=lets)
        self.says(wish_minus(wish_times((2, 1), p), wish_times((1, 2), q)), "B", lets=lets)
        self.says(wish_times((-6, 1), p), "-3 ( B + 1/2 ABCDEFGH )", lets=lets)
        self.says(wish_times((3, 1), q), "sum x of 1 in all : ABCDEFGH", lets=lets)
        # What was defined with the earlier meaning stays, and the new meaning may be made of the earlier one.
        self.says(wish_plus(p, q), "B + A", lets=("A = [ 0 | 0 ]", "B = A", "A = [ 0 1 | 1 2 ]"))
        self.says(wish_times((8, 1), p), "A", lets=("A = [ 0 | 0 ]", "A = 2 A", "A = A + A", "A = A + A"))
        self.says(Wish(3, ()), "A", lets=("A = [ 0 | - ]",))

    def test_sums_of_sets(self):
        def added(pairs, size=3):
            return wish_of(size, tuple((product_of(size, rows, columns), (1, 1)) for rows, columns in pairs))
        twos = list(itertools.combinations(range(3), 2))
        self.says(added([(some, (0, 1)) for some in twos]), "sum x of 2 in all : [ x | 0 1 ]")
        self.says(Wish(3, ()), "sum x of 2 in all : [ x | ~x ]")
        self.says(added([((k,), (k,)) for k in range(3)]), "sum x of 1 in all : [ x | x ]")
        self.says(added([((k,), (k,)) for k in range(3)]), "sum x of 1 in all : [ ~x | ~x ]")
        self.says(added([((0, k), (1, 2)) for k in (1, 2)]), "sum x of 1 in 2 1 : [ 0 x | 1 2 ]")
        self.says(added([((0, 1, 2), (0, 1, 2))]), "sum x of 1 in 1 : [ x ~x | all ]")
        self.says(added([((), ())]), "sum x of 0 in all : [ x | x ]")
        self.says(added([((), ())]), "sum x of 0 in - : [ x | - ]")
        self.says(added([((0, 1, 2), (0, 1, 2))]), "sum x of 0 in 1 : [ ~x | 0 1 2 ]")
        self.says(added([((x,), (y,)) for x in range(3) for y in range(3) if x != y]),
                  "sum x of 1 in all : sum y of 1 in ~x : [ x | y ]")
        self.says(wish_times((-2, 1), added([((x,), (0,)) for x in range(3)])), "-2 sum x of 1 in all : [ x | 0 ]")
        self.says(added([((x,), (0,)) for x in range(3)] * 2), "sum x of 1 in all : ( [ x | 0 ] + [ x | 0 ] )")
        self.says(added([((0,), (0,))] * 6, 6), "sum x of 1 in all : [ 0 | 0 ]", 6)
        self.says(added([((0,), (0,))], 6), "sum x of 6 in all : [ 0 | 0 ]", 6)

    def test_sums_of_no_sets(self):
        for text in ["sum x of 4 in all : [ 0 | 0 ]", "sum x of 6 in all : [ 0 | 0 ]", "sum x of 1 in - : [ 0 | 0 ]", "sum x of 2 in 1 : [ x | x ]",
                     "sum x of 1 in 0 0 : [ x | x ]", "sum x of 0 in 0 0 : [ 0 | 0 ]", "sum x of 1 in all 0 : [ x | x ]",
                     "sum x of 1 in all : sum y of 1 in x x : [ 0 | 0 ]", "sum x of 1 in all : sum y of 1 in x 0 1 2 : [ y | y ]",
                     "sum x of 3 in all : sum y of 1 in ~x : [ y | y ]"]:
            self.says(Wish(3, ()), text)

    def test_variables_that_hide_others(self):
        # In the SET behind its own `in` the outer x is meant, within its FACTOR the inner one.
        wanted = wish_of(3, tuple((product_of(3, (y,), (0,)), (2, 1)) for y in range(3)))
        self.says(wanted, "sum x of 1 in all : sum x of 1 in ~x : [ x | 0 ]")
        self.says(wish_of(3, tuple((product_of(3, (y,), (0,)), (1, 1)) for y in range(3))),
                  "sum x of 1 in all : sum x of 1 in x : [ x | 0 ]")
        # The outer one is meant again behind the FACTOR of the inner one.
        text = "sum x of 1 in 0 : ( sum x of 1 in 1 2 : [ x | 0 ] + [ x | 1 ] )"
        self.says(wish_of(3, ((product_of(3, (1,), (0,)), (1, 1)), (product_of(3, (2,), (0,)), (1, 1)), (((0,), (1,)), (1, 1)))), text)
        self.says(wish_of(3, ((((0,), (1,)), (3, 1)),)),
                  "sum abcdefgh of 1 in all : sum y of 1 in 0 : sum abcdefgh of 1 in 1 : [ y | abcdefgh ]")


class Bounds(CompanyTest):
    def test_count(self):
        for lets, expression in [
                ((), COUNTS_3000), ((), f"0 ( {COUNTS_3000} )"),
                ((), COUNTS_3000.replace("[ x | 0 y ]", "[ - | 0 ]")),
                (("A = [ 0 | 0 ]",), COUNTS_3000.replace("[ x | 0 y ]", "A")),
                ((f"A = {COUNTS_3000}",), COUNTS_3000.replace("[ x | 0 y ]", "A")),
                ((), COUNTS_3000.replace("[ x | 0 y ]", "sum u of 1 in - : ( A + A )").replace("A", "[ 0 | 0 ]")),
                ((), COUNTS_3000.replace("[ x | 0 y ]", "sum u of 1 in x x : ( A + A )").replace("A", "[ 0 | 0 ]")),
                ((), COUNTS_3000.replace("[ x | 0 y ]", "sum u of 0 in z z : [ 0 | 0 ]"))]:
            head = "".join(f"let {let}\n" for let in lets)
            line = 2 + len(lets)
            self.assertEqual(spoken(f"size 6\n{head}wish {expression}").size, 6)
            self.assertEqual(spoken(f"size 6\n{head}let B = {expression}\nwish B + B").size, 6)
            for more in (" + [ 0 | 0 ]", " - 0 [ 0 0 | 0 0 ]", " + sum x of 6 in 0 : [ 0 | 0 ]", " + ( ( [ - | 0 ] ) )",
                         " + sum x of 1 in 0 0 : [ 0 | 0 ]"):
                self.raises(BadSpeech(line), spoken, f"size 6\n{head}wish {expression}{more}")
                self.raises(BadSpeech(line), spoken, f"size 6\n{head}let B = {expression}{more}\nwish [ 0 | 0 ]")
            self.raises(BadSpeech(line), spoken, f"size 6\n{head}wish sum q of 1 in 0 1 : ( {expression} )")
        name = "size 6\nlet A = [ 0 | 0 ]\n"
        self.raises(BadSpeech(3), spoken, f"{name}wish {COUNTS_3000} + A")
        deep = "sum a of 3 in all : " * 8
        self.raises(BadSpeech(2), spoken, f"size 6\nwish {deep}[ 0 | 0 ]")
        # How often an inner FACTOR is evaluated may differ from one set to the next: once for 0, else twice.
        pairs = "sum a of 1 in all : sum b of 1 in a 0 : [ b | 0 ]"
        wanted = [((0,), (0,))] * 5 + [product_of(6, (k,), (0,)) for k in range(1, 6)]
        self.gives(wish_of(6, tuple((own, (1, 1)) for own in wanted)), spoken, f"size 6\nwish {pairs}")
        many = " + ".join(["sum x of 2 in all : sum y of 1 in all : sum z of 2 in 0 1 2 : B"] * 11)
        self.assertEqual(11 * 15 * 6 * 3 + 30, 3000)
        thirty = " + ".join(["B"] * 30)
        self.gives(wish_times((3000, 1), whole(6)), spoken, f"size 6\nlet B = [ - | - ]\nwish {many} + {thirty}")
        self.raises(BadSpeech(3), spoken, f"size 6\nlet B = [ - | - ]\nwish {many} + {thirty} + B")

    def test_depth(self):
        eight = "( " * 8 + "[ 0 | 0 ]" + " )" * 8
        nine = "( " * 9 + "[ 0 | 0 ]" + " )" * 9
        one = one_product(2, (0,), (0,))
        self.gives(one, spoken, f"size 2\nwish {eight}")
        self.gives(wish_times((2, 1), one), spoken, f"size 2\nlet A = {eight}\nwish {eight.replace('[ 0 | 0 ]', 'A')} + A")
        self.raises(BadSpeech(2), spoken, f"size 2\nwish {nine}")
        sums = "sum x of 1 in 0 : " * 8 + "[ x | x ]"
        self.gives(one, spoken, f"size 2\nwish {sums}")
        self.raises(BadSpeech(2), spoken, f"size 2\nwish sum x of 1 in 0 : {sums}")
        self.raises(BadSpeech(2), spoken, f"size 2\nwish ( {sums} )")
        mixed = "( sum x of 1 in 0 : " * 4 + "[ x | x ]" + " )" * 4
        self.gives(one, spoken, f"size 2\nwish {mixed}")
        self.gives(wish_times((2, 1), one), spoken, f"size 2\nwish {mixed} + {mixed}")
        self.raises(BadSpeech(3), spoken, f"size 2\nlet B = {mixed}\nwish sum y of 1 in 0 : {mixed}")
        self.raises(BadSpeech(2), spoken, "size 2\nwish " + "( " * 900 + "[ 0 | 0 ]")
        self.raises(BadSpeech(2), spoken, "size 2\nlet A = " + "sum x of 0 in - : " * 100 + "[ 0 | 0 ]\nwish A")
        # What is too deep is a fault in what is zero, too.
        self.raises(BadSpeech(2), spoken, f"size 2\nwish sum x of 1 in - : {eight}")


WRONG = ["", " ", "[", "]", "0", "1", "A", "B", "x", "all", "-", "+", "( )", "[ ]", "[ | ]", "[ 0 | ]", "[ | 0 ]", "[ 0 0 ]", "[ 0 | 0", "0 | 0 ]",
         "[ 0 | 0 | 0 ]", "[ 0 | 0 ] ]", "[ [ 0 | 0 ] ]", "[0 | 0]", "[ 0|0 ]", "[ 0 : 0 ]", "[  0 | 0 ]", "[ 0 | 0 ] ", " [ 0 | 0 ]", "[ 0 |  0 ]",
         "[ 3 | 0 ]", "[ 0 | 3 ]", "[ -1 | 0 ]", "[ 00 | 0 ]", "[ 01 | 0 ]", "[ +1 | 0 ]", "[ -0 | 0 ]", "[ 1/1 | 0 ]", "[ x | 0 ]", "[ ~x | 0 ]",
         "[ ~0 | 0 ]", "[ ~all | 0 ]", "[ ~ | 0 ]", "[ A | 0 ]", "[ - 0 | 0 ]", "[ 0 - | 0 ]", "[ - - | 0 ]", "[ 0 | - - ]", "[ 0 , 1 | 0 1 ]",
         "[ ALL | 0 ]", "[ 0 0 3 | 1 ]", "[ sum | 0 ]", "[ in | 0 ]", "[ 0 | 0 ] +", "+ [ 0 | 0 ]", "- [ 0 | 0 ]", "[ 0 | 0 ] -", "-[ 0 | 0 ]",
         "[ 0 | 0 ] [ 0 | 0 ]", "[ 0 | 0 ] + + [ 0 | 0 ]", "[ 0 | 0 ] - - [ 0 | 0 ]", "[ 0 | 0 ] * [ 0 | 0 ]", "[ 0 | 0 ] 2", "2 * [ 0 | 0 ]",
         "2 3 [ 0 | 0 ]", "2 -1 [ 0 | 0 ]", "2/4 [ 0 | 0 ]", "2/1 [ 0 | 0 ]", "0/2 [ 0 | 0 ]", "-0 [ 0 | 0 ]", "1/0 [ 0 | 0 ]", "1/-2 [ 0 | 0 ]",
         "+1 [ 0 | 0 ]", "01 [ 0 | 0 ]", "1.5 [ 0 | 0 ]", "- 1 [ 0 | 0 ]", "2[ 0 | 0 ]", "1 / 2 [ 0 | 0 ]", "( [ 0 | 0 ]", "[ 0 | 0 ] )",
         "( [ 0 | 0 ] ) )", "( ( [ 0 | 0 ] )", "([ 0 | 0 ])", "( 2 )", "( [ 0 | 0 ] + )", "( - [ 0 | 0 ] )", "sum", "sum x", "sum x of", "sum x of 1",
         "sum x of 1 in", "sum x of 1 in all", "sum x of 1 in all :", "sum x of 1 in : [ 0 | 0 ]", "sum x of 1 in all [ 0 | 0 ]",
         "sum x of 1 all : [ 0 | 0 ]", "sum x 1 in all : [ 0 | 0 ]", "sum of 1 in all : [ 0 | 0 ]", "sum x of in all : [ 0 | 0 ]",
         "sum x of 7 in all : [ 0 | 0 ]", "sum x of -1 in all : [ 0 | 0 ]", "sum x of 01 in all : [ 0 | 0 ]", "sum x of 1/1 in all : [ 0 | 0 ]",
         "sum x of x in all : [ 0 | 0 ]", "sum X of 1 in all : [ 0 | 0 ]", "sum x1 of 1 in all : [ 0 | 0 ]", "sum 1 of 1 in all : [ 0 | 0 ]",
         "sum abcdefghi of 1 in all : [ 0 | 0 ]", "sum x of 1 in all : 2 [ 0 | 0 ]", "sum x of 1 in all : [ 0 | 0 ] [ 0 | 0 ]",
         "sum x of 1 in all : - [ 0 | 0 ]", "sum x of 1 in x : [ 0 | 0 ]", "sum x of 1 in ~x : [ 0 | 0 ]", "sum x of 1 in all : [ x | 0 ] + [ x | 0 ]",
         "sum x of 1 in all : [ y | 0 ]", "sum x of 1 in 3 : [ 0 | 0 ]", "sum x of 1 in - : [ 3 | 0 ]", "sum x of 1 in - : [ y | 0 ]",
         "sum x of 1 in 0 0 : A", "sum x of 6 in 0 : [ 0 | 0", "sum x of 1 in 0 - : [ 0 | 0 ]", "sum x of 1 in [ 0 ] : [ 0 | 0 ]",
         "sum x of 1 in all : : [ 0 | 0 ]", "sum x of 1 in all : x", "sum x of 1 in all: [ 0 | 0 ]", "Sum x of 1 in all : [ 0 | 0 ]", "0 A",
         "[ 0 | 0 ] + A", "0 [ 3 | 0 ]", "[ 0 | - ] + x", "[ 0 | 0 ] = [ 0 | 0 ]", "let", "wish", "wish [ 0 | 0 ]", "size 3", "[ 0 | 0 ]x",
         "( [ 0 | 0 ] ] ", "[ 0 | 0 )", "[ 0 0 | ~ ]", "sum ~x of 1 in all : [ 0 | 0 ]", "~x", "[ 0 ~ | 0 1 ]", "[ 0 | 0 ] ;", "a [ 0 | 0 ]"]
WRONG += [f"sum {word} of 1 in all : [ 0 | 0 ]" for word in sorted(RESERVED)]
BAD_LETS = ["let", "let ", "let C", "let C =", "let C = ", "let = [ 0 | 0 ]", "let C [ 0 | 0 ]", "let c = [ 0 | 0 ]", "let ABCDEFGHI = [ 0 | 0 ]",
            "let  = [ 0 | 0 ]", "let C  = [ 0 | 0 ]", "let C=[ 0 | 0 ]", "let C = [ 0 | 0 ] ", " let C = [ 0 | 0 ]", "let C1 = [ 0 | 0 ]",
            "let C = C", "let A, = [ 0 | 0 ]", "Let C = [ 0 | 0 ]", "C = [ 0 | 0 ]", "let C D = [ 0 | 0 ]", "let C = = [ 0 | 0 ]", "", " ",
            "let C : [ 0 | 0 ]", "[ 0 | 0 ]", "size 3", "let -1 = [ 0 | 0 ]", "let let = [ 0 | 0 ]", "lets C = [ 0 | 0 ]", "wishes [ 0 | 0 ]",
            "wish= [ 0 | 0 ]", "WISH [ 0 | 0 ]", " wish [ 0 | 0 ]"]


class Faults(CompanyTest):
    def test_no_string(self):
        for thing in odd_things() + [A, ("size 2",), ["size 2"], 2, whole(2)]:
            if not isinstance(thing, str):
                self.raises(BadSpeech(0), spoken, thing)

    def test_first_line(self):
        for line in ["", " ", "size", "size ", "size 0", "size 7", "size -1", "size +1", "size 01", "size 2 ", " size 2", "size  2", "Size 2",
                     "size a", "size 2/1", "wish 2", "board 2", "size 2 3", "size 1_0", "wish [ 0 | 0 ]", "size=2", "sizes 2", "let A = [ 0 | 0 ]"]:
            self.raises(BadSpeech(1), spoken, line)
            self.raises(BadSpeech(1), spoken, line + "\nwish [ 0 | 0 ]")
            self.raises(BadSpeech(1), spoken, line + "\nx")

    def test_wrong_expressions(self):
        for text in WRONG:
            self.raises(BadSpeech(2), spoken, f"size 3\nwish {text}")
            self.raises(BadSpeech(2), spoken, f"size 3\nwish {text}\nwish [ 0 | 0 ]")
            self.raises(BadSpeech(2), spoken, f"size 3\nlet A = {text}\nlet C = x\nwish A")
            self.raises(BadSpeech(4), spoken, f"size 3\nlet C = [ 0 | 0 ]\nlet D = C\nlet A = {text}\nwish C")
            self.raises(BadSpeech(3), spoken, f"size 3\nlet C = [ 0 | 0 ]\nwish {text}")
            self.raises(BadSpeech(2), spoken, f"size 3\nwish ( {text} )")
            self.assertFalse(is_expression(text.split(" "), 3, set()))

    def test_wrong_lets(self):
        for line in BAD_LETS:
            self.raises(BadSpeech(2), spoken, f"size 3\n{line}\nwish [ 0 | 0 ]")
            self.raises(BadSpeech(3), spoken, f"size 3\nlet E = [ 0 | 0 ]\n{line}\nx\nwish E")
            self.raises(BadSpeech(2), spoken, f"size 3\n{line}")

    def test_wish_lines(self):
        good = "let A = [ 0 | 0 ]"
        self.raises(BadSpeech(2), spoken, "size 2")
        self.raises(BadSpeech(3), spoken, f"size 2\n{good}")
        self.raises(BadSpeech(5), spoken, f"size 2\n{good}\n{good}\n{good}")
        self.raises(BadSpeech(2), spoken, "size 2\n")
        self.raises(BadSpeech(3), spoken, f"size 2\n{good}\n")
        for more in ("", "wish A", good, "x", "wish A\n"):
            self.raises(BadSpeech(4), spoken, f"size 2\n{good}\nwish A\n{more}")
        self.raises(BadSpeech(3), spoken, "size 2\nwish [ 0 | 0 ]\n" + "\n" * 30)
        self.raises(BadSpeech(2), spoken, "size 2\nwish B\n")

    def test_names_of_later_lines(self):
        self.raises(BadSpeech(2), spoken, "size 2\nlet A = B\nlet B = [ 0 | 0 ]\nwish A")
        self.raises(BadSpeech(2), spoken, "size 2\nlet A = A\nwish A")
        self.raises(BadSpeech(3), spoken, "size 2\nlet A = sum x of 1 in all : [ x | 0 ]\nwish [ x | 0 ]")
        self.raises(BadSpeech(3), spoken, "size 2\nlet A = [ 0 | 0 ]\nwish sum x of 1 in all : x")

    def test_places_of_the_size(self):
        for size in range(1, 7):
            self.gives(one_product(size, (size - 1,), (size - 1,)), spoken, f"size {size}\nwish [ {size - 1} | {size - 1} ]")
            self.raises(BadSpeech(2), spoken, f"size {size}\nwish [ {size} | 0 ]")
            self.raises(BadSpeech(2), spoken, f"size {size}\nwish [ 0 | {size} ]")
            self.raises(BadSpeech(2), spoken, f"size {size}\nwish sum x of 1 in {size} : [ 0 | 0 ]")
            self.assertEqual(len(spoken(f"size {size}\nwish sum x of 1 in all : [ 0 | x ]")), size)
            self.assertEqual(len(products(size)) > 0, True)

    def test_texts_changed_in_one_place(self):
        texts = ["size 2\nlet AB = -1/2 [ 0 1 | all ] + [ - | 0 ]\nwish AB - ( 3 AB )", "size 3\nwish sum x of 1 in ~x 0 : [ x | ~x ]",
                 "size 3\nlet A = sum x of 1 in 0 2 : [ x | ~x 1 ]\nwish 2 sum y of 2 in all : ( [ y | 0 1 ] - A )"]
        for text in texts:
            for changed in changed_texts(text, "016 \n-+[]|():~xyAa"):
                fault = first_fault(changed)
                if fault is None:
                    self.assertIsInstance(spoken(changed), Wish)
                else:
                    self.raises(BadSpeech(fault), spoken, changed)

    def test_words_left_out_put_in_and_exchanged(self):
        line = "sum x of 1 in 0 2 : ( 2 [ x | 1 ] - 1/3 A + ( [ ~x 1 | all ] ) )"
        words = line.split(" ")
        source = random.Random(5)
        for _ in range(1500):
            changed = list(words)
            for _ in range(source.randint(1, 2)):
                at = source.randrange(len(changed))
                changed[at:at + source.randint(0, 1)] = [source.choice(words + ["-", "~x", "sum"])] * source.randint(0, 1)
            text = "size 3\nlet A = [ 0 | 0 ]\nwish " + " ".join(changed)
            fault = first_fault(text)
            if fault is None:
                self.assertIsInstance(spoken(text), Wish)
            else:
                self.raises(BadSpeech(fault), spoken, text)
