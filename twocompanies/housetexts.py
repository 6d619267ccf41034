"""Texts of houses."""

from twocompanies.boards import Board
from twocompanies.errors import BadText
from twocompanies.faults import fault_of
from twocompanies.lines import lines_and_size, piece_read
from twocompanies.pairings import GREATEST_SIZE
from twocompanies.promises import is_given, is_promise, promise_read, promise_text
from twocompanies.stock import Stock, all_names, is_name
from twocompanies.wishes import Wish, is_part_at, part_read


def thing_lines(stock, name):
    """The lines of a name and what it stands for."""
    kind = "board" if name in stock.boards else "wish"
    thing = stock.boards[name] if name in stock.boards else stock.wishes[name]
    return [f"{kind} {name}"] + str(thing).split("\n")[1:]


def house_lines(stock):
    """The lines of the text of a house."""
    lines = [f"house {stock.size}"]
    for name in all_names(stock):
        lines.extend(thing_lines(stock, name))
    return lines + [promise_text(promise) for promise in stock.pledges]


class Reading:
    """A text of a house that is read line by line.

    The last name and its kind, "board" or "wish", are kept with the pieces or parts that were read behind it;
    the kind is "promise" from the first promise on.
    """

    def __init__(self, size):
        self.stock = Stock(size)
        self.kind = "house"
        self.name = ""
        self.found = []

    def close(self):
        """Lets the last name stand for what was read behind it."""
        if self.kind == "board":
            self.stock.boards[self.name] = Board(self.stock.size, tuple(self.found))
        elif self.kind == "wish":
            self.stock.wishes[self.name] = Wish(self.stock.size, tuple(self.found))
        self.found = []

    def accept_name(self, words):
        """Takes the line of a name; whether it is as described."""
        if len(words) != 2 or self.kind == "promise" or not is_name(words[1]) or words[1] <= self.name:
            return False
        self.close()
        self.kind = words[0]
        self.name = words[1]
        return True

    def accept_promise(self, promise):
        """Takes the line of a promise; whether it is as described."""
        self.close()
        self.kind = "promise"
        if not is_promise(self.stock, promise) or is_given(self.stock, promise):
            return False
        self.stock.pledges.append(promise)
        return True

    def accept_piece(self, words):
        """Takes the line of a piece; whether it is as described."""
        piece = piece_read(self.stock.size, words)
        self.found.append(piece)
        return piece is not None

    def accept_part(self, line):
        """Takes the line of a part; whether it is as described."""
        self.found.append(part_read(line))
        return is_part_at(self.stock.size, self.found, len(self.found) - 1)

    def accept_line(self, line):
        """Takes a line behind the first one; whether it is as described."""
        words = line.split(" ")
        if words[0] in ("board", "wish"):
            return self.accept_name(words)
        promise = promise_read(words)
        if promise is not None:
            return self.accept_promise(promise)
        if self.kind == "board":
            return self.accept_piece(words)
        return self.kind == "wish" and self.accept_part(line)


def stock_read(text):
    """What a house of this text keeps."""
    lines, size = lines_and_size(text, "house", GREATEST_SIZE)
    reading = Reading(size)
    for number in range(1, len(lines)):
        if not reading.accept_line(lines[number]):
            raise BadText(number + 1)
    reading.close()
    pledges = reading.stock.pledges
    # The promises have the last lines, one for each of them.
    for at, promise in enumerate(pledges):
        if fault_of(reading.stock, promise) is not None:
            raise BadText(len(lines) - len(pledges) + at + 1)
    return reading.stock
