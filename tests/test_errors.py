"""The error classes: their base, their parameters, any values in them."""

import unittest

from tests.samples import A, odd_things
from twocompanies import errors

PARAMETERS = {
    "OtherSizes": [], "TooMany": ["most"], "BadText": ["line"], "BadSize": ["thing"], "BadPieces": ["number"],
    "BadFilling": ["thing"], "Unfilled": ["letter"], "BadPlace": ["thing"], "BadSets": ["thing"],
    "BadTangle": ["thing"], "BadRows": ["number"], "BadPairing": ["thing"], "BadWord": ["number"],
    "BadProduct": ["thing"], "BadParts": ["number"], "BadCoordinates": ["thing"], "BadSpeech": ["line"],
    "BadOffers": ["number"], "BadBoards": ["number"], "BadCover": ["thing"], "SometimesBelow": ["pairing"],
    "BadQuestion": ["thing"], "BadName": ["thing"], "NoName": ["name"], "NameTaken": ["name"], "InUse": ["name"],
    "BadPromise": ["thing"], "NoPromise": ["thing"], "Unkept": ["promise", "fault"], "BadPiece": ["thing"],
    "NothingToUndo": [], "BadChange": ["number"], "InvalidCommand": [],
}


class Errors(unittest.TestCase):
    def test_bases(self):
        self.assertEqual(errors.CompanyError.__bases__, (Exception,))
        for name in PARAMETERS:
            self.assertEqual(getattr(errors, name).__bases__, (errors.CompanyError,), name)
            self.assertEqual(getattr(errors, name).__module__, "twocompanies.errors")

    def test_parameters_are_attributes(self):
        for name, parameters in PARAMETERS.items():
            made = getattr(errors, name)
            for first in odd_things() + [A, "a", 1, (1, 2)]:
                values = [first, [first]][:len(parameters)]
                by_position = made(*values)
                by_name = made(**dict(zip(parameters, values)))
                for parameter, value in zip(parameters, values):
                    self.assertIs(getattr(by_position, parameter), value)
                    self.assertIs(getattr(by_name, parameter), value)
                    self.assertEqual(sorted(vars(by_name)), sorted(parameters))
                with self.assertRaises(errors.CompanyError):
                    raise by_name

    def test_how_many_parameters(self):
        for name, parameters in PARAMETERS.items():
            made = getattr(errors, name)
            if parameters:
                with self.assertRaises(TypeError):
                    made(*[1] * (len(parameters) - 1))
                with self.assertRaises(TypeError):
                    made(*[1] * (len(parameters) + 1))
            else:
                self.assertEqual(vars(made()), {})

    def test_no_other_class(self):
        found = [name for name, thing in vars(errors).items() if isinstance(thing, type)]
        self.assertEqual(sorted(found), sorted([*PARAMETERS, "CompanyError"]))
