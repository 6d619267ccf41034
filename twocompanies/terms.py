"""Products of weights, as terms."""

from twocompanies.numerals import number_times


def term_of(weights):
    """The product of some weights as a term, None if it is zero."""
    number = (1, 1)
    powers = {}
    for weight in weights:
        if isinstance(weight, str):
            powers[weight] = powers.get(weight, 0) + 1
        else:
            number = number_times(number, weight)
    if number[0] == 0:
        return None
    return (tuple(sorted(powers.items())), number)
