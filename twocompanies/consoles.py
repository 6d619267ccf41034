"""Consoles: houses that are changed and asked by commands."""

from twocompanies.answers import answer
from twocompanies.commands import change_of, is_changing, words_of
from twocompanies.errors import InvalidCommand


class Console:
    """A house, and the changes that are kept aside between a begin and its end, None outside of these."""

    def __init__(self, house):
        self.house = house
        self.aside = None

    def run(self, line):
        """Executes a command; the text that it returns."""
        words = words_of(line)
        if is_changing(words[0]):
            return self.take_change(change_of(words))
        if words == ["begin"]:
            return self.begin_deal()
        if words == ["end"]:
            return self.end_deal()
        if words == ["forget"]:
            self.taken_aside()
            return "done"
        if words == ["undo"]:
            return self.undo_deal()
        return answer(self.house, words)

    def take_change(self, change):
        """Makes a change, or keeps it aside."""
        if self.aside is None:
            self.house.change(change)
            return "done"
        self.aside.append(change)
        return f"noted {len(self.aside)}"

    def taken_aside(self):
        """The list of the changes that were kept aside, which are forgotten."""
        if self.aside is None:
            raise InvalidCommand()
        changes = self.aside
        self.aside = None
        return changes

    def begin_deal(self):
        """Keeps changes aside from now on."""
        if self.aside is not None:
            raise InvalidCommand()
        self.aside = []
        return "done"

    def end_deal(self):
        """Does the deal of the changes that were kept aside; they are forgotten even if it is refused."""
        changes = self.taken_aside()
        self.house.deal(tuple(changes))
        return "done"

    def undo_deal(self):
        """Undoes the last deal."""
        if self.aside is not None:
            raise InvalidCommand()
        self.house.undo()
        return "done"
