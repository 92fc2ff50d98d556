import unittest

from bandheld.amounts import TOP
from bandheld.errors import BadLink
from bandheld.links import Link
from tests.helpers import FLOW, HOUSE, LINK, ODD_VALUES, check_raises

RIGHT = {
    "name": ["a", "z", "abcdef"],
    "capacity": [(4, 1), TOP, (1, 12), (11999, 12)],
    "low": [None, (4, 1), (1, 12), (47, 12)],
    "way": [1, 20],
    "discipline": ["own", "spare", "ranks"],
    "strange": [True, False],
}
WRONG = {
    "name": [value for value in ODD_VALUES] + ["abcdefg", "a1", "a-", "Ab", " a", "a\n", "\u00e4", 1, b"a"],
    "capacity": ODD_VALUES + [(0, 1), (1, 13), (1001, 1), (12001, 12), [4, 1], 4, "4"],
    "low": [value for value in ODD_VALUES if value is not None] + [(0, 1), (49, 12), (5, 1), (1, 13), [4, 1], 0],
    "way": ODD_VALUES + [0, 21, -1, (1, 1)],
    "discipline": ODD_VALUES + ["Own", "own ", "rank", ("own",), 0],
    "strange": [value for value in ODD_VALUES if not isinstance(value, bool)] + [0, 1, "true"],
}


def make(**changes):
    told = {"name": "a", "capacity": (4, 1)}
    told.update(changes)
    return Link(**told)


class Parameters(unittest.TestCase):
    def test_defaults(self):
        link = Link("a", (4, 1))
        found = (link.name, link.capacity, link.low, link.way, link.discipline, link.strange)
        self.assertEqual(found, ("a", (4, 1), (4, 1), 1, "own", False))
        self.assertIs(link.strange, False)
        self.assertEqual(Link(capacity=(4, 1), name="a"), link)
        self.assertEqual(make(low=None).low, (4, 1))

    def test_right(self):
        for what, values in RIGHT.items():
            for value in values:
                low = {"low": (1, 12)} if what == "capacity" else {}
                link = make(**{**low, what: value})
                if value is not None:
                    self.assertEqual(getattr(link, what), value)

    def test_wrong(self):
        for what, values in WRONG.items():
            for value in values:
                check_raises(self, BadLink, {"what": what}, make, **{what: value})

    def test_first_wrong_one(self):
        names = list(WRONG)
        for at, what in enumerate(names):
            told = {name: WRONG[name][1] for name in reversed(names[at:])}
            check_raises(self, BadLink, {"what": what}, make, **told)

    def test_low_of_a_wrong_capacity(self):
        check_raises(self, BadLink, {"what": "capacity"}, make, capacity=(1, 13), low=(1, 1))

    def test_keyword_only(self):
        with self.assertRaises(TypeError):
            Link("a", (4, 1), (4, 1))


class Answers(unittest.TestCase):
    def test_shaky(self):
        self.assertIs(make().is_shaky(), False)
        self.assertIs(make(low=(4, 1)).is_shaky(), False)
        self.assertIs(make(low=(47, 12)).is_shaky(), True)

    def test_as_strange(self):
        link = make(low=(3, 1), way=7, discipline="ranks")
        strange = link.as_strange()
        self.assertEqual(strange, make(low=(3, 1), way=7, discipline="ranks", strange=True))
        self.assertIs(strange.strange, True)
        self.assertIs(link.strange, False)
        self.assertEqual(strange.as_strange(), strange)

    def test_equal(self):
        self.assertTrue(make() == make(low=(4, 1), way=1, discipline="own", strange=False))
        self.assertFalse(make() != make())
        others = [
            make(name="b"), make(capacity=(5, 1), low=(4, 1)), make(low=(3, 1)), make(way=2),
            make(discipline="spare"), make(strange=True), FLOW, HOUSE, "a", ("a", (4, 1)), None,
        ]
        for other in others:
            self.assertFalse(LINK == other)
            self.assertFalse(other == LINK)
            self.assertTrue(LINK != other)

    def test_repr(self):
        self.assertEqual(repr(make()), "Link(a, 4)")
        self.assertEqual(repr(make(capacity=(5, 2))), "Link(a, 5/2)")
        self.assertEqual(repr(make(low=(3, 1))), "Link(a, 3 to 4)")
        self.assertEqual(repr(make(low=(7, 2), strange=True)), "Link(a, 7/2 to 4)")


if __name__ == "__main__":
    unittest.main()
