"""Numbers and integers as texts write them [0.2]."""

from tests.helpers import CompanyTest
from twocompanies.numerals import integer_read, number_power, number_read, number_text, reduced


class Numerals(CompanyTest):
    def test_numbers_are_read_back(self):
        for top in range(-12, 13):
            for bottom in range(1, 9):
                number = reduced((top, bottom))
                self.gives(number, number_read, number_text(number))
                if number != (top, bottom):
                    self.gives(None, number_read, f"{top}/{bottom}")

    def test_other_words(self):
        for word in ["", "-", "--1", "+1", "-0", "00", "01", "1 ", " 1", "1_0", "a", "-a", "1-", "\u0661", "1\n"]:
            self.gives(None, integer_read, word)
            self.gives(None, number_read, word)
        for word in ["1/1", "1/0", "1/-2", "-1/-2", "2/4", "0/2", "/", "1/", "/2", "1/2/3", "1/+2", "1/02", "01/2", "-0/2", "1//2"]:
            self.gives(None, number_read, word)
        self.gives(-12, integer_read, "-12")

    def test_powers(self):
        for exponent in range(9):
            self.gives(((-2) ** exponent, 3 ** exponent), number_power, (-2, 3), exponent)
