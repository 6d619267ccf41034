"""Commands: their words, and the changes that they make."""

from twocompanies.drawing import planned
from twocompanies.errors import InvalidCommand
from twocompanies.promises import promise_read
from twocompanies.speech import spoken
from twocompanies.stock import is_name


def words_of(line):
    """The list of the words of a command; raises InvalidCommand for any value that is not a line of words."""
    if not isinstance(line, str) or "\n" in line:
        raise InvalidCommand()
    words = line.split(" ")
    if "" in words:
        raise InvalidCommand()
    return words


def need_names(words, many):
    """Raises InvalidCommand for other words than a command and so many names."""
    if len(words) != many + 1 or not all([is_name(word) for word in words[1:]]):
        raise InvalidCommand()


def need_text(words):
    """Raises InvalidCommand for other words than a command, a name, the equals sign and one word or more."""
    if len(words) < 4 or not is_name(words[1]) or words[2] != "=":
        raise InvalidCommand()


def text_given(words):
    """The text of a plan or a speech, which follows on the equals sign."""
    lines = [[]]
    for word in words[3:]:
        if word == ";":
            lines.append([])
        else:
            lines[-1].append(word)
    return "\n".join([" ".join(line) for line in lines])


def board_change(words):
    """The change of a command that lets a name stand for the board of a plan."""
    need_text(words)
    return ("board", words[1], planned(text_given(words)))


def wish_change(words):
    """The change of a command that lets a name stand for the wish of a speech."""
    need_text(words)
    return ("wish", words[1], spoken(text_given(words)))


def drop_change(words):
    """The change of a command that drops a name."""
    need_names(words, 1)
    return tuple(words)


def rename_change(words):
    """The change of a command that gives another name."""
    need_names(words, 2)
    return tuple(words)


def promise_change(words):
    """The change of a command that gives or releases a promise."""
    promise = promise_read(words[1:])
    if promise is None:
        raise InvalidCommand()
    return (words[0], promise)


CHANGES = {"board": board_change, "wish": wish_change, "drop": drop_change, "rename": rename_change,
           "promise": promise_change, "release": promise_change}


def is_changing(word):
    """Whether commands that begin with this word make a change."""
    return word in CHANGES


def change_of(words):
    """The change that a command makes."""
    read_change = CHANGES[words[0]]
    return read_change(words)
