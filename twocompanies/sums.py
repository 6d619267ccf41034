"""Sums of terms with letters: their arithmetic and their texts."""

from twocompanies.errors import BadFilling, BadText, Unfilled
from twocompanies.fillings import filling_numbers, is_filling
from twocompanies.numerals import add_number, integer_read, number_power, number_read, number_text
from twocompanies.numerals import number_times, reduced
from twocompanies.values import is_integer, is_letter, is_lowest_number, is_pair

ONE = (((), (1, 1)),)


def is_term(thing):
    """Whether any value is a term."""
    if not is_pair(thing) or not isinstance(thing[0], tuple):
        return False
    before = ""
    for pair in thing[0]:
        if not is_pair(pair) or not is_letter(pair[0]) or not is_integer(pair[1]):
            return False
        if pair[0] <= before or pair[1] < 1:
            return False
        before = pair[0]
    return is_lowest_number(thing[1]) and thing[1][0] != 0


def is_sum(thing):
    """Whether any value is a sum."""
    if not isinstance(thing, tuple) or not all([is_term(term) for term in thing]):
        return False
    return all([thing[at - 1][0] < thing[at][0] for at in range(1, len(thing))])


def number_sum(number):
    """The sum that is a number."""
    if number[0] == 0:
        return ()
    return (((), reduced(number)),)


def letter_sum(letter):
    """The sum that is a letter."""
    return ((((letter, 1),), (1, 1)),)


def sum_of_numbers(numbers):
    """The sum of a dict from letters to numbers."""
    return tuple(sorted([(letters, number) for letters, number in numbers.items() if number[0] != 0]))


def plus(one, other):
    """The first sum plus the second one."""
    numbers = {letters: number for letters, number in one}
    for letters, number in other:
        add_number(numbers, letters, number)
    return sum_of_numbers(numbers)


def scaled(number, some):
    """A sum times a number."""
    if number[0] == 0:
        return ()
    factor = reduced(number)
    return tuple([(letters, number_times(factor, own)) for letters, own in some])


def minus(one, other):
    """The first sum minus the second one."""
    return plus(one, scaled((-1, 1), other))


def letters_times(one, other):
    """The letters of a product of two terms."""
    if one == () or other == ():
        return one + other
    powers = {letter: exponent for letter, exponent in one}
    for letter, exponent in other:
        powers[letter] = powers.get(letter, 0) + exponent
    return tuple(sorted(powers.items()))


def times(one, other):
    """The first sum times the second one."""
    numbers = {}
    for letters, number in one:
        for more, factor in other:
            add_number(numbers, letters_times(letters, more), number_times(number, factor))
    return sum_of_numbers(numbers)


def power(some, many):
    """A sum times itself, so many times in all; 1 for no times."""
    result = ONE
    for _ in range(many):
        result = times(result, some)
    return result


def by_filling(some, filling):
    """A sum with the numbers of a filling in the place of its letters."""
    if not is_filling(filling):
        raise BadFilling(filling)
    known = filling_numbers(filling)
    numbers = {}
    for letters, number in some:
        worth = number
        for letter, exponent in letters:
            if letter in known:
                worth = number_times(worth, number_power(known[letter], exponent))
        add_number(numbers, tuple([pair for pair in letters if pair[0] not in known]), worth)
    return sum_of_numbers(numbers)


def letter_text(letter, exponent):
    """The text of a letter with its exponent."""
    return letter if exponent == 1 else f"{letter}^{exponent}"


def term_text(term):
    """The text of a term without its sign."""
    letters, number = term
    parts = [letter_text(letter, exponent) for letter, exponent in letters]
    size = (abs(number[0]), number[1])
    if size != (1, 1) or parts == []:
        parts = [number_text(size)] + parts
    return "*".join(parts)


def sum_text(some):
    """The text of a sum."""
    if some == ():
        return "0"
    parts = []
    for at, term in enumerate(some):
        is_below = term[1][0] < 0
        if at == 0:
            parts.append("-" if is_below else "")
        else:
            parts.append(" - " if is_below else " + ")
        parts.append(term_text(term))
    return "".join(parts)


def power_read(word):
    """The pair of a letter and its exponent that a word is, None for another word."""
    letter, sign, exponent = word.partition("^")
    if not is_letter(letter):
        return None
    if sign == "":
        return (letter, 1)
    many = integer_read(exponent)
    return None if many is None else (letter, many)


def term_read(word, sign):
    """The term of a word with this sign, 1 or -1; a pair that is no term for some other words."""
    factors = word.split("*")
    number = number_read(factors[0])
    letters = factors if number is None else factors[1:]
    top, bottom = (1, 1) if number is None else number
    return (tuple([power_read(letter) for letter in letters]), (sign * top, bottom))


def terms_read(text):
    """The tuple of the terms of a text; it need not be a sum, nor have this very text."""
    words = text.split(" ")
    first_sign = -1 if text.startswith("-") else 1
    found = [term_read(words[0][1:] if first_sign == -1 else words[0], first_sign)]
    for at in range(1, len(words) - 1, 2):
        found.append(term_read(words[at + 1], -1 if words[at] == "-" else 1))
    return tuple(found)


def sum_read(text):
    """The sum of a text."""
    if not isinstance(text, str):
        raise BadText(0)
    some = () if text == "0" else terms_read(text)
    # Only texts that are written back sign by sign are texts of sums, so the reading may be generous.
    if not is_sum(some) or sum_text(some) != text:
        raise BadText(0)
    return some


def letters_of_sum(some):
    """The ascending list of the letters of a sum."""
    found = {letter: True for letters, number in some for letter, exponent in letters}
    return sorted(found)


def is_plain_number(some):
    """Whether a sum has no letters."""
    return letters_of_sum(some) == []


def number_of(some):
    """The number that a sum without letters is."""
    letters = letters_of_sum(some)
    if letters != []:
        raise Unfilled(letters[0])
    return (0, 1) if some == () else some[0][1]
