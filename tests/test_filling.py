import random
import unittest
from fractions import Fraction

from bandheld.amounts import ONE, TOP, ZERO
from bandheld.errors import NotPlain, UnknownName
from bandheld.filling import Filling, fill
from bandheld.houses import House
from bandheld.links import Link
from tests.helpers import (
    FLOW, HOUSE, ODD_VALUES, check_raises, example, flow, fraction, plain_share, plain_total, random_house,
)

NARROW = Fraction(1, 10 ** 60)


class Examples(unittest.TestCase):
    def test_example(self):
        found = fill(example())
        self.assertIsInstance(found, Filling)
        self.assertEqual(found.levels(), {"a": (2, 1), "b": (4, 1)})
        self.assertEqual(found.shares(), {"f": (2, 1), "g": (2, 1), "h": (4, 1)})
        self.assertEqual([found.reason(name) for name in "fgh"], ["a", "a", "b"])
        self.assertEqual(repr(found), "Filling(a 2, b 4; f 2, g 2, h 4)")
        self.assertEqual((found.level_at("b"), found.share_of("h")), ((4, 1), (4, 1)))
        self.assertEqual((found.level_at(link="a"), found.share_of(flow="f")), ((2, 1), (2, 1)))
        self.assertEqual((found.reason(flow="h"), fill(house=example()) == found), ("b", True))

    def test_greatest_wishes_and_gone_flows(self):
        house = House(
            1, Link("a", (6, 1)), flow("f", "a"), flow("g", "a", cap=ONE), flow("h", "a"), flow("i", "a", manner=()),
        )
        found = fill(house)
        self.assertEqual(repr(found), "Filling(a 5/2; f 5/2, g 1, h 5/2, i 0)")
        self.assertEqual([found.reason(name) for name in "fghi"], ["a", "most", "a", "gone"])

    def test_never_full(self):
        found = fill(House(1, Link("a", (6, 1)), flow("f", "a", cap=(5, 2)), flow("g", "a", cap=(3, 1))))
        self.assertEqual(repr(found), "Filling(a 1000; f 5/2, g 3)")
        self.assertEqual(found.reason("g"), "most")
        gone = fill(House(1, Link("a", (6, 1)), flow("f", "a", manner=())))
        self.assertEqual((repr(gone), gone.reason("f")), ("Filling(a 1000; f 0)", "gone"))

    def test_just_full_at_the_greatest_wishes(self):
        found = fill(House(1, Link("a", (4, 1)), flow("f", "a", cap=(3, 1)), flow("g", "a", cap=ONE)))
        self.assertEqual(repr(found), "Filling(a 3; f 3, g 1)")
        self.assertEqual([found.reason("f"), found.reason("g")], ["most", "most"])

    def test_full_at_the_height_zero(self):
        parts = [flow("f", "a", "b", least=ONE, cap=(5, 1)), flow("g", "a", least=(3, 1)), flow("h", "b", "a")]
        found = fill(House(1, Link("a", (4, 1)), Link("b", (3, 1)), *parts))
        self.assertEqual(repr(found), "Filling(a 0, b 1000; f 1, g 3, h 0)")
        self.assertEqual([found.reason(name) for name in "fgh"], ["a", "a", "a"])

    def test_equal_wishes(self):
        found = fill(House(1, Link("a", (4, 1)), flow("f", "a", least=(2, 1), cap=(2, 1)), flow("g", "a")))
        self.assertEqual(repr(found), "Filling(a 2; f 2, g 2)")
        self.assertEqual([found.reason("f"), found.reason("g")], ["most", "a"])
        wishes = House(1, Link("a", (4, 1)), flow("f", "a", manner=(ZERO, ZERO)), flow("g", "a"))
        self.assertEqual((repr(fill(wishes)), fill(wishes).reason("f")), ("Filling(a 4; f 0, g 4)", "most"))

    def test_least_level_of_several(self):
        parts = [Link("c", (2, 1)), Link("b", (2, 1)), Link("a", (3, 1))]
        found = fill(House(1, *parts, flow("f", "c", "b", "a"), flow("g", "a")))
        self.assertEqual(repr(found), "Filling(a 3/2, b 1000, c 1000; f 3/2, g 3/2)")
        both = fill(House(1, *parts, flow("f", "c", "b", "a")))
        self.assertEqual((repr(both), both.reason("f")), ("Filling(a 1000, b 2, c 2; f 2)", "b"))

    def test_weights(self):
        found = fill(House(1, Link("a", (4, 1)), flow("f", "a", weight=3), flow("g", "a")))
        self.assertEqual(repr(found), "Filling(a 1; f 3, g 1)")

    def test_no_links(self):
        self.assertEqual(repr(fill(House(4))), "Filling(; )")
        self.assertEqual((fill(House(4)).levels(), fill(House(4)).shares()), ({}, {}))

    def test_not_plain(self):
        for house in [
            example().with_strange("a"), example().with_strange("h"), House(1, Link("a", ONE, low=(1, 2)), FLOW),
        ]:
            check_raises(self, NotPlain, {}, fill, house)


class Answers(unittest.TestCase):
    def test_unknown(self):
        found = fill(example())
        for name in ODD_VALUES + ["x", ("a",), ["f"], 0]:
            for call in [found.level_at, found.share_of, found.reason]:
                check_raises(self, UnknownName, {"name": name}, call, name)
        check_raises(self, UnknownName, {"name": "f"}, found.level_at, "f")
        check_raises(self, UnknownName, {"name": "a"}, found.share_of, "a")
        check_raises(self, UnknownName, {"name": "a"}, found.reason, "a")

    def test_new_dicts(self):
        found = fill(example())
        found.levels().clear()
        found.shares()["f"] = ZERO
        self.assertEqual(found, fill(example()))
        self.assertEqual(list(found.levels()), ["a", "b"])
        self.assertEqual(list(found.shares()), ["f", "g", "h"])

    def test_equal(self):
        found = fill(example())
        self.assertTrue(found == fill(example().with_flow(flow("f", "b", "a", way=5))))
        self.assertFalse(found != fill(example()))
        for other in [
            fill(House(3)), fill(example().with_manner("h", ())), fill(example().with_flow(flow("h", "b", weight=2))),
            fill(example().with_flow(flow("i", "a", cap=ZERO))), HOUSE, FLOW, None, "a", found.levels(),
        ]:
            self.assertFalse(found == other)
            self.assertFalse(other == found)
            self.assertTrue(found != other)
        once = fill(House(1, Link("a", (2, 1)), flow("f", "a")))
        more = fill(House(1, Link("a", (3, 1)), flow("f", "a", cap=(2, 1))))
        self.assertEqual((once.shares() == more.shares(), once == more), (True, False))


class Fair(unittest.TestCase):
    def check_fair(self, house, found):
        """The sharing fits, and each flow that gets less than its greatest wish has a link that tells why."""
        got = {name: fraction(value) for name, value in found.shares().items()}
        loads = {link.name: sum([got[name] for name in house.on(link.name)]) for link in house.links()}
        for link in house.links():
            self.assertLessEqual(loads[link.name], fraction(link.capacity))
        for part in house.flows():
            if part.is_gone():
                self.assertEqual((got[part.name], found.reason(part.name)), (0, "gone"))
                continue
            self.assertTrue(fraction(part.manner[0]) <= got[part.name] <= fraction(part.manner[1]))
            if got[part.name] == fraction(part.manner[1]):
                self.assertEqual(found.reason(part.name), "most")
                continue
            full = [link for link in part.route if loads[link] == fraction(house.link_of(link).capacity)]
            head = got[part.name] / part.weight
            self.assertTrue(any([all([
                got[name] / house.flow_of(name).weight <= head
                for name in house.on(link)
                if got[name] > 0 and got[name] > fraction(house.flow_of(name).manner[0])
            ]) for link in full]))
            least = min([fraction(found.level_at(link)) for link in part.route])
            first = min([link for link in part.route if fraction(found.level_at(link)) == least])
            self.assertEqual(found.reason(part.name), first)

    def check_levels(self, house, found):
        """Each level is the least one at which the link is full, its flows being stopped by their other links."""
        for link in house.links():
            wishes = []
            for name in house.on(link.name):
                part = house.flow_of(name)
                others = [found.level_at(other) for other in part.route if other != link.name]
                wishes.append((part.manner, part.weight, min(others + [TOP], key=fraction)))
            level = fraction(found.level_at(link.name))
            if level < 1000:
                self.assertEqual(plain_total(wishes, level), max(
                    fraction(link.capacity), plain_total(wishes, Fraction(0))))
            else:
                self.assertLess(plain_total(wishes, level - NARROW), fraction(link.capacity))
            if level > 0:
                self.assertLess(plain_total(wishes, level - NARROW), fraction(link.capacity))

    def test_any(self):
        rng = random.Random(41)
        for _ in range(300):
            house = random_house(rng)
            found = fill(house)
            self.check_fair(house, found)
            self.check_levels(house, found)
            for part in house.flows():
                level = min([fraction(found.level_at(link)) for link in part.route])
                self.assertEqual(fraction(found.share_of(part.name)), plain_share(part.manner, part.weight, level))


if __name__ == "__main__":
    unittest.main()
