import random
import unittest

from bandheld.amounts import ONE, TOP, ZERO
from bandheld.errors import (
    BadAge,
    BadManner,
    BadPart,
    DuplicateName,
    Idle,
    Overpromised,
    Small,
    TooMany,
    UnknownHop,
    UnknownName,
)
from bandheld.flows import Flow
from bandheld.houses import House
from bandheld.links import Link
from tests.helpers import FLOW, HOUSE, LINK, ODD_VALUES, check_raises, flow, random_house

NO_NAMES = ODD_VALUES + ["x", "House", ("a",), ["a"], 0, 1, -1]


def window(name, buffers, size=(5, 1)):
    links = "abc"[:len(buffers)]
    return Flow(name, list(links), buffers, kind="window", size=size)


def example():
    return House(
        3,
        Link("b", (6, 1), way=5),
        flow("h", "b"),
        Link("a", (4, 1), way=2),
        flow("f", "b", "a", way=7),
        flow("g", "a"),
    )


class Refusals(unittest.TestCase):
    def test_age(self):
        for age in ODD_VALUES + [0, 13, -1, (3, 1)]:
            check_raises(self, BadAge, {"age": age}, House, age, LINK, FLOW, 7)
            check_raises(self, BadAge, {"age": age}, House, age)
        for age in range(1, 13):
            self.assertEqual(House(age).age, age)

    def test_parts(self):
        for part in [value for value in ODD_VALUES] + ["a", 3, [LINK]]:
            check_raises(self, BadPart, {"at": 0}, House, 3, part)
            check_raises(self, BadPart, {"at": 2}, House, 3, LINK, FLOW, part, None)

    def test_too_many(self):
        links = [Link("l" + letter, (4, 1)) for letter in "abcdefghi"]
        flows = [flow("f" + letter, "la") for letter in "abcdefghijk"]
        rest = [flow("x", *["l" + letter for letter in "abcde"]), flow("y", "lf", "lg", "lh")]
        full = House(3, *links[:8], *flows[:8], *rest)
        self.assertEqual((len(full.links()), len(full)), (8, 10))
        check_raises(self, TooMany, {"what": "links", "count": 9}, House, 3, *links, *flows)
        check_raises(self, TooMany, {"what": "flows", "count": 11}, House, 3, *links[:8], *flows)
        check_raises(self, TooMany, {"what": "flows", "count": 11}, full.with_flow, flow("zz", "la"))
        check_raises(self, TooMany, {"what": "links", "count": 12}, House, 3, *[LINK] * 12)
        self.assertEqual((House.LINKS, House.FLOWS, full.LINKS), (8, 10, 8))

    def test_duplicates(self):
        for parts, name in [
            ([LINK, LINK, FLOW], "a"), ([FLOW, LINK, FLOW], "f"), ([LINK, flow("a", "a")], "a"),
            ([LINK, FLOW, Link("b", ONE), flow("b", "b"), flow("f", "a")], "b"),
            ([flow("f", "a"), LINK, LINK, flow("f", "a")], "a"),
        ]:
            check_raises(self, DuplicateName, {"name": name}, House, 3, *parts)

    def test_routes(self):
        check_raises(self, UnknownName, {"name": "x"}, House, 3, LINK, flow("f", "a", "x", "b"))
        check_raises(self, UnknownName, {"name": "y"}, House, 3, LINK, flow("g", "x"), flow("f", "a", "y"))
        check_raises(self, UnknownName, {"name": "f"}, House, 3, LINK, FLOW, flow("g", "f"))

    def test_idle(self):
        check_raises(self, Idle, {"link": "a"}, House, 3, LINK)
        check_raises(self, Idle, {"link": "b"}, House, 3, Link("c", ONE), Link("b", ONE, strange=True), LINK, FLOW)

    def test_overpromised(self):
        parts = [Link("a", (6, 1), low=(4, 1)), flow("f", "a", least=(5, 2)), flow("g", "a", least=(3, 2))]
        self.assertEqual(len(House(3, *parts)), 2)
        more = [flow("h", "a", least=(1, 12), manner=()), flow("i", "a", least=(1, 4), strange=True)]
        told = {"link": "a", "over": (1, 3)}
        check_raises(self, Overpromised, told, House, 3, *parts, *more)
        told = {"link": "b", "over": ONE}
        check_raises(self, Overpromised, told, House, 3, Link("c", ONE), Link("b", ONE), LINK,
                     flow("f", "b", "a", "c", least=(2, 1)))

    def test_small(self):
        links = [Link("c", ONE), Link("b", ONE), Link("a", ONE)]
        right = window("g", [(5, 1), (5, 1), (6, 1)])
        self.assertEqual(len(House(3, *links, right)), 1)
        small = window("f", [(5, 1), (59, 12), (1, 1)])
        check_raises(self, Small, {"flow": "f", "link": "b"}, House, 3, *links, window("g", [ZERO] * 3), small)
        check_raises(self, Small, {"flow": "g", "link": "a"}, House, 3, *links, window("g", [ZERO] * 3))
        backwards = Flow("g", ["c", "a"], [ONE, ONE], kind="window", size=(5, 1))
        check_raises(self, Small, {"flow": "g", "link": "c"}, House, 3, links[0], links[2], backwards)

    def test_first_fault(self):
        letters = "abcdefghijk"
        faults = [
            (BadAge, []),
            (BadPart, [None]),
            (TooMany, [Link("l" + letter, ONE) for letter in letters[:9]]
             + [flow("m", "la", "lb", "lc", "ld", "le"), flow("n", "lf", "lg", "lh", "li")]),
            (TooMany, [Link("v", ONE)] + [flow("g" + letter, "v") for letter in letters]),
            (DuplicateName, [Link("w", ONE), flow("d", "w"), flow("d", "w")]),
            (UnknownName, [flow("e", "x")]),
            (Idle, [Link("b", ONE)]),
            (Overpromised, [LINK, flow("f", "a", least=(5, 1))]),
            (Small, [Link("c", ONE), Flow("z", ["c"], [ONE], kind="window", size=(5, 1))]),
        ]
        rng = random.Random(20)
        for chosen in range(1, 2 ** len(faults)):
            present = [fault for at, fault in enumerate(faults) if chosen >> at & 1]
            parts = [part for _, further in present for part in further]
            rng.shuffle(parts)
            with self.assertRaises(Exception) as caught:
                House(0 if chosen & 1 else 3, *parts)
            self.assertIs(caught.exception.__class__, present[0][0])
            if present[0][0] is TooMany:
                self.assertEqual(caught.exception.what, "links" if chosen & 4 else "flows")

    def test_parts_stay(self):
        parts = [Link("a", ONE), flow("f", "a", least=(2, 1)), Link("b", ONE)]
        copies = [Link("a", ONE), flow("f", "a", least=(2, 1)), Link("b", ONE)]
        check_raises(self, Idle, {"link": "b"}, House, 3, *parts)
        self.assertEqual(parts, copies)


class Answers(unittest.TestCase):
    def test_empty(self):
        house = House(5)
        self.assertEqual((house.links(), house.flows(), len(house), house.age), ([], [], 0, 5))
        self.assertTrue(house)
        self.assertIs(bool(house), True)
        self.assertIs(house.is_plain(), True)
        self.assertEqual(repr(house), "House(0 links, 0 flows)")
        self.assertEqual(House(age=5), house)
        self.assertEqual(house.with_strange(), house)

    def test_order(self):
        house = example()
        self.assertEqual([link.name for link in house.links()], ["a", "b"])
        self.assertEqual([part.name for part in house.flows()], ["f", "g", "h"])
        self.assertEqual(house.on("a"), ["f", "g"])
        self.assertEqual(house.on(link="b"), ["f", "h"])
        self.assertEqual(house.flow_of("f").route, ("b", "a"))
        self.assertIs(house.link_of(name="b").__class__, Link)
        self.assertEqual(repr(house), "House(2 links, 3 flows)")
        self.assertEqual(repr(HOUSE), "House(1 links, 1 flows)")
        self.assertEqual((len(house), bool(house)), (3, True))

    def test_new_lists(self):
        house = example()
        house.links().clear()
        house.flows().clear()
        house.on("a").clear()
        self.assertEqual((len(house.links()), len(house.flows()), house.on("a")), (2, 3, ["f", "g"]))

    def test_ways(self):
        house = example()
        self.assertEqual([house.way_of("f", hop) for hop in range(3)], [7, 5, 2])
        self.assertEqual(house.way_of(hop=1, flow="g"), 2)
        self.assertEqual([house.length(name) for name in ["f", "g", "h"]], [14, 3, 6])
        self.assertEqual(house.length(flow="g"), 3)

    def test_unknown(self):
        house = example()
        for name in NO_NAMES:
            for call in [house.link_of, house.flow_of, house.on, house.length, house.is_clear]:
                check_raises(self, UnknownName, {"name": name}, call, name)
            check_raises(self, UnknownName, {"name": name}, house.way_of, name, 99)
            check_raises(self, UnknownName, {"name": name}, house.with_manner, name, 99)
            check_raises(self, UnknownName, {"name": name}, house.with_strange, "a", "f", name, "y")
            self.assertIs(name in house, False)
        for call in [house.flow_of, house.length, house.is_clear]:
            check_raises(self, UnknownName, {"name": "a"}, call, "a")
        for call in [house.link_of, house.on]:
            check_raises(self, UnknownName, {"name": "f"}, call, "f")

    def test_unknown_hops(self):
        house = example()
        for hop in ODD_VALUES + [-1, 3, (0, 1)]:
            check_raises(self, UnknownHop, {"hop": hop}, house.way_of, "f", hop)

    def test_contains(self):
        for name in ["a", "b", "f", "g", "h"]:
            self.assertIs(name in example(), True)

    def test_plain(self):
        self.assertIs(example().is_plain(), True)
        self.assertIs(example().with_strange("a").is_plain(), False)
        self.assertIs(example().with_strange("f").is_plain(), False)
        self.assertIs(House(3, Link("a", ONE, low=(1, 2)), FLOW).is_plain(), False)
        self.assertIs(House(3, Link("a", ONE, discipline="ranks"), FLOW).is_plain(), True)

    def test_clear(self):
        house = example()
        self.assertEqual([house.is_clear(name) for name in "fgh"], [True, True, True])
        self.assertIs(house.is_clear(flow="f"), True)
        strange = house.with_strange("a", "h")
        self.assertEqual([strange.is_clear(name) for name in "fgh"], [False, False, False])
        self.assertEqual([house.with_strange("g").is_clear(name) for name in "fgh"], [True, False, True])
        links = [Link("a", ONE, discipline="spare", low=(1, 2)), Link("b", ONE, discipline="ranks")]
        ranks = House(3, *links, flow("f", "a", "b"), flow("g", "a", manner=()), flow("h", "b"))
        self.assertEqual([ranks.is_clear(name) for name in "fgh"], [False, True, False])

    def test_equal(self):
        house = example()
        parts = house.flows() + house.links()
        self.assertTrue(house == House(3, *parts))
        self.assertFalse(house != House(3, *reversed(parts)))
        for other in [
            House(4, *parts), house.with_strange("a"), house.with_strange("f"), house.with_manner("g", ()),
            House(3, *parts, flow("i", "a")), House(3), LINK, FLOW, None, "House", [house],
        ]:
            self.assertFalse(house == other)
            self.assertFalse(other == house)
            self.assertTrue(house != other)


class Changes(unittest.TestCase):
    def test_with_manner(self):
        house = example()
        changed = house.with_manner("g", ())
        self.assertEqual(changed.flow_of("g"), house.flow_of("g").with_manner(()))
        self.assertEqual((changed.flow_of("f"), changed.age), (house.flow_of("f"), 3))
        self.assertEqual(changed.links(), house.links())
        self.assertEqual(house, example())
        self.assertEqual(changed.with_manner(manner=(ZERO, TOP), flow="g"), house)
        for manner in ODD_VALUES + [(ONE, ONE), (ZERO, (1001, 1)), [], 7]:
            check_raises(self, BadManner, {"flow": "g"}, house.with_manner, "g", manner)

    def test_with_strange(self):
        house = example()
        changed = house.with_strange("h", "a", "h")
        self.assertEqual([part.strange for part in changed.links() + changed.flows()], [True, False, False, False, True])
        both = changed.with_strange("f")
        self.assertEqual([part.strange for part in both.links() + both.flows()], [True, False, True, False, True])
        self.assertEqual(house.with_strange(), house)
        self.assertEqual(house, example())
        check_raises(self, UnknownName, {"name": "y"}, house.with_strange, "a", "y", "x")

    def test_with_flow(self):
        house = example()
        more = house.with_flow(flow("i", "a"))
        self.assertEqual([part.name for part in more.flows()], ["f", "g", "h", "i"])
        self.assertEqual(more.on("a"), ["f", "g", "i"])
        other = house.with_flow(flow=flow("g", "b", weight=3))
        self.assertEqual((other.on("a"), other.on("b"), len(other)), (["f"], ["f", "g", "h"], 3))
        self.assertEqual(other.flow_of("g").weight, 3)
        self.assertEqual(house, example())

    def test_with_flow_refused(self):
        house = example()
        check_raises(self, DuplicateName, {"name": "a"}, house.with_flow, flow("a", "b"))
        check_raises(self, UnknownName, {"name": "x"}, house.with_flow, flow("g", "x"))
        check_raises(self, Overpromised, {"link": "a", "over": ONE}, house.with_flow, flow("i", "a", least=(5, 1)))
        lonely = House(3, LINK, Link("b", ONE), FLOW, flow("g", "b"))
        check_raises(self, Idle, {"link": "a"}, lonely.with_flow, flow("f", "b"))
        small = Flow("i", ["b"], [ONE], kind="window", size=(2, 1))
        check_raises(self, Small, {"flow": "i", "link": "b"}, house.with_flow, small)
        self.assertEqual(house, example())

    def test_any_order(self):
        rng = random.Random(21)
        for _ in range(60):
            house = random_house(rng, 0.3, 0.3)
            parts = house.links() + house.flows()
            rng.shuffle(parts)
            again = House(house.age, *parts)
            self.assertEqual(again, house)
            self.assertEqual([link.name for link in again.links()], sorted([link.name for link in house.links()]))
            for link in again.links():
                told = sorted([part.name for part in parts if isinstance(part, Flow) and link.name in part.route])
                self.assertEqual(again.on(link.name), told)


if __name__ == "__main__":
    unittest.main()
