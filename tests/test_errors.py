import unittest

from bandheld import errors
from tests.helpers import ODD_VALUES

PARAMETERS = {
    "BandError": {
        "BadAmount": ["value"],
        "BadLink": ["what"],
        "BadFlow": ["what"],
        "BadAge": ["age"],
        "BadPart": ["at"],
        "TooMany": ["what", "count"],
        "DuplicateName": ["name"],
        "Idle": ["link"],
        "Overpromised": ["link", "over"],
        "Small": ["flow", "link"],
        "BadText": ["line", "word"],
        "BadManner": ["flow"],
        "BadCapacity": ["link"],
        "BadSharing": ["name"],
        "BadBand": ["link"],
        "NotPlain": [],
        "Future": ["tick"],
        "Short": ["amount"],
        "BadValue": ["channel"],
        "BadState": ["what", "at"],
        "BadCount": ["value"],
        "BadDeed": ["at"],
    },
    "Missing": {
        "UnknownName": ["name"],
        "UnknownChannel": ["channel"],
        "UnknownHop": ["hop"],
        "NoSuchLetter": ["number"],
        "NoSuchTick": ["tick"],
    },
    "Refused": {
        "Started": ["tick"],
        "NotStrange": ["name"],
        "NotShaky": ["link"],
        "Unseen": ["flow"],
    },
}
ROOTS = {"BandError": ValueError, "Missing": LookupError, "Refused": RuntimeError}


def all_classes():
    """Each listed class with its family and its parameters."""
    for family, classes in PARAMETERS.items():
        for name, parameters in classes.items():
            yield getattr(errors, name), getattr(errors, family), parameters


class Families(unittest.TestCase):
    def test_roots(self):
        for name, root in ROOTS.items():
            self.assertEqual(getattr(errors, name).__bases__, (root,))

    def test_direct_base(self):
        for error, family, _ in all_classes():
            self.assertEqual(error.__bases__, (family,), error)

    def test_no_other_class(self):
        found = {value for value in vars(errors).values() if isinstance(value, type)}
        listed = {error for error, _, _ in all_classes()} | {getattr(errors, name) for name in ROOTS}
        self.assertEqual(found, listed)

    def test_subclass_of_none_but_its_own(self):
        classes = [error for error, _, _ in all_classes()]
        for error, family, parameters in all_classes():
            made = error(*parameters)
            for other in classes:
                self.assertEqual(isinstance(made, other), other is error)
            for name, root in ROOTS.items():
                self.assertEqual(isinstance(made, getattr(errors, name)), family is getattr(errors, name))
                self.assertEqual(isinstance(made, root), family is getattr(errors, name))


class Parameters(unittest.TestCase):
    def test_by_place(self):
        for error, _, parameters in all_classes():
            for value in ODD_VALUES + [7, 10 ** 5000, (1, 2), error]:
                made = error(*[(value, at) for at in range(len(parameters))])
                for at, name in enumerate(parameters):
                    self.assertEqual(getattr(made, name), (value, at))
                made = error(*[value for _ in parameters])
                for name in parameters:
                    self.assertIs(getattr(made, name), value)

    def test_by_name(self):
        for error, _, parameters in all_classes():
            told = {name: [name] for name in reversed(parameters)}
            made = error(**told)
            for name in parameters:
                self.assertIs(getattr(made, name), told[name])

    def test_caught_by_the_base(self):
        for error, family, parameters in all_classes():
            with self.assertRaises(family) as caught:
                raise error(*parameters)
            self.assertEqual([getattr(caught.exception, name) for name in parameters], parameters)


if __name__ == "__main__":
    unittest.main()
