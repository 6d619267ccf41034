"""Numbers, which are pairs of a top and a bottom: their sums, products and texts."""

from math import gcd

DIGITS = "0123456789"


def reduced(number):
    """The equal number without a common divisor."""
    divisor = gcd(number[0], number[1])
    if divisor == 1:
        return number
    return (number[0] // divisor, number[1] // divisor)


def number_plus(one, other):
    """The sum of two numbers."""
    if one[1] == 1 and other[1] == 1:
        return (one[0] + other[0], 1)
    return reduced((one[0] * other[1] + other[0] * one[1], one[1] * other[1]))


def number_times(one, other):
    """The product of two numbers."""
    if one[1] == 1 and other[1] == 1:
        return (one[0] * other[0], 1)
    return reduced((one[0] * other[0], one[1] * other[1]))


def number_minus(one, other):
    """The first number minus the second one."""
    return number_plus(one, (-other[0], other[1]))


def number_over(one, other):
    """The first number divided by the second one, which is not zero."""
    sign = 1 if other[0] > 0 else -1
    return reduced((sign * one[0] * other[1], sign * other[0] * one[1]))


def is_less(one, other):
    """Whether the first number is less than the second one."""
    return one[0] * other[1] < other[0] * one[1]


def add_number(numbers, key, number):
    """Adds a number to the one that a dict has for a key."""
    before = numbers.get(key)
    numbers[key] = number if before is None else number_plus(before, number)


def number_power(number, exponent):
    """A number times itself; by squares, since exponents may be great."""
    result = (1, 1)
    square = number
    rest = exponent
    while rest > 0:
        if rest % 2 == 1:
            result = number_times(result, square)
        rest = rest // 2
        if rest > 0:
            square = number_times(square, square)
    return result


def number_text(number):
    """The text of a number without a common divisor."""
    if number[1] == 1:
        return str(number[0])
    return f"{number[0]}/{number[1]}"


def integer_read(word):
    """The integer that a word is, None if Python would not write it so."""
    digits = word[1:] if word.startswith("-") else word
    if digits == "" or not all([sign in DIGITS for sign in digits]):
        return None
    value = int(word)
    if str(value) != word:
        return None
    return value


def number_read(word):
    """The number that a word is, None if it is not written as numbers are."""
    head, sign, tail = word.partition("/")
    top = integer_read(head)
    bottom = 1 if sign == "" else integer_read(tail)
    if top is None or bottom is None or bottom < 1:
        return None
    number = reduced((top, bottom))
    return number if number_text(number) == word else None
