"""The errors that this package raises; their parameters are attributes, too."""


class CompanyError(Exception):
    """The base class of all errors of this package."""


class OtherSizes(CompanyError):
    """Two arguments of one call have different sizes."""


class TooMany(CompanyError):
    """The answer would have more items than were asked for."""

    def __init__(self, most):
        self.most = most


class BadText(CompanyError):
    """A text is not as described, from this line on."""

    def __init__(self, line):
        self.line = line


class BadSize(CompanyError):
    """A size is not one that the call takes."""

    def __init__(self, thing):
        self.thing = thing


class BadPieces(CompanyError):
    """The pieces of a board are no tuple (-1), or this one is no piece."""

    def __init__(self, number):
        self.number = number


class BadFilling(CompanyError):
    """A filling is not as described."""

    def __init__(self, thing):
        self.thing = thing


class Unfilled(CompanyError):
    """A number was asked for where this letter stands."""

    def __init__(self, letter):
        self.letter = letter


class BadPlace(CompanyError):
    """A row or a column is not a place."""

    def __init__(self, thing):
        self.thing = thing


class BadSets(CompanyError):
    """Rows and columns are not two sets with equally many places."""

    def __init__(self, thing):
        self.thing = thing


class BadTangle(CompanyError):
    """A way, a tuple of ways or a tangle is not as described."""

    def __init__(self, thing):
        self.thing = thing


class BadRows(CompanyError):
    """The rows of a table are no such tuple (-1), or this one is no row."""

    def __init__(self, number):
        self.number = number


class BadPairing(CompanyError):
    """A pairing is not as described."""

    def __init__(self, thing):
        self.thing = thing


class BadWord(CompanyError):
    """A word is no tuple (-1), or this item is no meeting."""

    def __init__(self, number):
        self.number = number


class BadProduct(CompanyError):
    """A product is not as described."""

    def __init__(self, thing):
        self.thing = thing


class BadParts(CompanyError):
    """The parts of a wish are no tuple (-1), or this one is no part."""

    def __init__(self, number):
        self.number = number


class BadCoordinates(CompanyError):
    """Coordinates are not as described."""

    def __init__(self, thing):
        self.thing = thing


class BadSpeech(CompanyError):
    """A speech is not as described, from this line on."""

    def __init__(self, line):
        self.line = line


class BadOffers(CompanyError):
    """Offers are no tuple (-1), or this one is no offer."""

    def __init__(self, number):
        self.number = number


class BadBoards(CompanyError):
    """Boards are no such tuple (-1), or this one is no filled board."""

    def __init__(self, number):
        self.number = number


class BadCover(CompanyError):
    """A cover is not as described."""

    def __init__(self, thing):
        self.thing = thing


class SometimesBelow(CompanyError):
    """A wish is below zero somewhere: its coordinate here is."""

    def __init__(self, pairing):
        self.pairing = pairing


class BadQuestion(CompanyError):
    """A question, or its paper, is not as described."""

    def __init__(self, thing):
        self.thing = thing


class BadName(CompanyError):
    """A name is not as described."""

    def __init__(self, thing):
        self.thing = thing


class NoName(CompanyError):
    """A name stands for nothing of the kind that is asked for."""

    def __init__(self, name):
        self.name = name


class NameTaken(CompanyError):
    """A name stands for something already."""

    def __init__(self, name):
        self.name = name


class InUse(CompanyError):
    """A promise has this name."""

    def __init__(self, name):
        self.name = name


class BadPromise(CompanyError):
    """A promise is not as described, or is given already."""

    def __init__(self, thing):
        self.thing = thing


class NoPromise(CompanyError):
    """This promise is not given."""

    def __init__(self, thing):
        self.thing = thing


class Unkept(CompanyError):
    """A promise would not be kept, as the fault shows."""

    def __init__(self, promise, fault):
        self.promise = promise
        self.fault = fault


class BadPiece(CompanyError):
    """A piece, its number or its weight is not as described."""

    def __init__(self, thing):
        self.thing = thing


class NothingToUndo(CompanyError):
    """No deal was done that could be undone."""


class BadChange(CompanyError):
    """Changes are no tuple (-1), or this one cannot be made."""

    def __init__(self, number):
        self.number = number


class InvalidCommand(CompanyError):
    """A line is not a command."""
