"""A base class for tests, with a check of errors."""

import copy
import unittest

from twocompanies.errors import CompanyError


class CompanyTest(unittest.TestCase):
    def raises(self, wanted, call, *args, **more):
        """Checks that a call raises an error of exactly this class with these attributes."""
        kept = copy.deepcopy(args)
        try:
            result = call(*args, **more)
        except CompanyError as error:
            self.assertIs(type(error), type(wanted))
            self.assertEqual(strict(vars(error)), strict(vars(wanted)))
        else:
            self.fail(f"{wanted!r} was not raised, but {result!r} returned")
        self.assertEqual(strict(args), strict(kept))

    def gives(self, wanted, call, *args, **more):
        """Checks that a call returns this value, kind by kind, and leaves its arguments as they were."""
        kept = copy.deepcopy(args)
        self.assertEqual(strict(call(*args, **more)), strict(wanted))
        self.assertEqual(strict(args), strict(kept))


def strict(thing):
    """A value with the names of the kinds of its parts, so that True and 1 differ."""
    if isinstance(thing, (tuple, list)):
        return (type(thing).__name__, [strict(part) for part in thing])
    if isinstance(thing, dict):
        return ("dict", [(strict(key), strict(part)) for key, part in thing.items()])
    if isinstance(thing, (str, int)) or thing is None:
        return (type(thing).__name__, thing)
    return (type(thing).__name__, strict(vars(thing)))
