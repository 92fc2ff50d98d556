import random
import unittest

from bandheld.amounts import ONE, TOP, ZERO
from bandheld.channels import KINDS, channels, channels_from, channels_to, first_value, is_true, is_value
from bandheld.errors import UnknownName
from bandheld.flows import Flow
from bandheld.houses import House
from bandheld.links import Link
from tests.helpers import FLOW, HOUSE, ODD_VALUES, check_raises, flow, random_house


def lonely(part):
    """A house with this flow alone."""
    return House(3, *[Link(link, (4, 1)) for link in part.route], part)


def each_kind():
    return House(
        3, Link("a", (4, 1)), Link("b", (6, 1)), Link("c", (6, 1)), flow("l", "b", "a"), flow("e", "a", kind="eager"),
        flow("p", "c", kind="probe", size=2), flow("w", "a", kind="window", size=ONE),
    )


def told_in(house):
    """All channels of a house, looked for among all tuples that could be some."""
    names = [part.name for part in house.links() + house.flows()]
    links = {link.name for link in house.links()}
    flows = {part.name: part for part in house.flows()}
    common = {
        (teller, reader) for part in flows.values() for teller in part.route for reader in part.route
        if teller != reader
    }

    def is_one(kind, teller, reader, name):
        if kind == "level" and name == "":
            if reader in links:
                return (teller, reader) in common
            return teller in flows[reader].route and flows[reader].kind == "level"
        if name not in flows:
            return False
        part = flows[name]
        if kind == "manner":
            return teller == name and reader in part.route
        if kind == "room":
            stops = (name,) + part.route
            return part.kind != "window" and (reader, teller) in list(zip(stops, stops[1:]))
        if kind == "came":
            return part.kind == "window" and teller == reader == name
        if kind == "ask":
            return part.kind == "probe" and teller == name and reader in part.route
        return kind == "bit" and part.kind == "probe" and reader == name and teller in part.route

    every = [
        (kind, teller, reader, name)
        for kind in ["ask", "bit", "came", "level", "manner", "room"]
        for teller in names for reader in names for name in [""] + names
    ]
    return sorted([channel for channel in every if is_one(*channel)])


class Lists(unittest.TestCase):
    def test_kinds(self):
        self.assertEqual(KINDS, ("ask", "bit", "came", "level", "manner", "room"))

    def test_level(self):
        self.assertEqual(channels(lonely(flow("l", "b", "a"))), [
            ("level", "a", "b", ""), ("level", "a", "l", ""), ("level", "b", "a", ""), ("level", "b", "l", ""),
            ("manner", "l", "a", "l"), ("manner", "l", "b", "l"),
            ("room", "a", "b", "l"), ("room", "b", "l", "l"),
        ])

    def test_eager(self):
        self.assertEqual(channels(lonely(flow("e", "c", "a", "b", kind="eager"))), [
            ("level", "a", "b", ""), ("level", "a", "c", ""), ("level", "b", "a", ""), ("level", "b", "c", ""),
            ("level", "c", "a", ""), ("level", "c", "b", ""),
            ("manner", "e", "a", "e"), ("manner", "e", "b", "e"), ("manner", "e", "c", "e"),
            ("room", "a", "c", "e"), ("room", "b", "a", "e"), ("room", "c", "e", "e"),
        ])

    def test_window(self):
        self.assertEqual(channels(lonely(flow("w", "b", "a", kind="window", size=ONE))), [
            ("came", "w", "w", "w"), ("level", "a", "b", ""), ("level", "b", "a", ""),
            ("manner", "w", "a", "w"), ("manner", "w", "b", "w"),
        ])

    def test_probe(self):
        self.assertEqual(channels(lonely(flow("p", "b", "a", kind="probe", size=2))), [
            ("ask", "p", "a", "p"), ("ask", "p", "b", "p"), ("bit", "a", "p", "p"), ("bit", "b", "p", "p"),
            ("level", "a", "b", ""), ("level", "b", "a", ""), ("manner", "p", "a", "p"), ("manner", "p", "b", "p"),
            ("room", "a", "b", "p"), ("room", "b", "p", "p"),
        ])

    def test_one_link(self):
        self.assertEqual(channels(HOUSE), [("level", "a", "f", ""), ("manner", "f", "a", "f"), ("room", "a", "f", "f")])
        self.assertEqual(channels(House(1)), [])

    def test_flows_in_common(self):
        links = [Link("a", (4, 1)), Link("b", (4, 1)), Link("c", (4, 1))]
        one = House(3, *links, flow("f", "a", "b", kind="eager"), flow("g", "c", kind="eager"))
        levels = [channel for channel in channels(one) if channel[0] == "level"]
        self.assertEqual(levels, [("level", "a", "b", ""), ("level", "b", "a", "")])
        routes = [("f", "a", "b"), ("g", "b", "a"), ("h", "c", "b")]
        two = House(3, *links, *[flow(*names, kind="eager") for names in routes])
        levels = [channel for channel in channels(two) if channel[0] == "level"]
        self.assertEqual(levels, [
            ("level", "a", "b", ""), ("level", "b", "a", ""), ("level", "b", "c", ""), ("level", "c", "b", ""),
        ])

    def test_gone_and_strange(self):
        house = each_kind()
        quiet = house.with_strange("a", "l", "p").with_manner("e", ())
        self.assertEqual(channels(quiet), channels(house))

    def test_to_and_from(self):
        house = each_kind()
        self.assertEqual(channels_to(house, "a"), [
            ("level", "b", "a", ""), ("manner", "e", "a", "e"), ("manner", "l", "a", "l"), ("manner", "w", "a", "w"),
        ])
        self.assertEqual(channels_from(house, "a"), [
            ("level", "a", "b", ""), ("level", "a", "l", ""), ("room", "a", "b", "l"), ("room", "a", "e", "e"),
        ])
        self.assertEqual(channels_to(house, "w"), [("came", "w", "w", "w")])
        self.assertEqual(channels_from(house=house, name="w"), [("came", "w", "w", "w"), ("manner", "w", "a", "w")])
        self.assertEqual(channels_to(house=house, name="p"), [("bit", "c", "p", "p"), ("room", "c", "p", "p")])
        self.assertEqual(channels_from(house, "p"), [("ask", "p", "c", "p"), ("manner", "p", "c", "p")])

    def test_new_lists(self):
        house = each_kind()
        for call in [channels, lambda house: channels_to(house, "a"), lambda house: channels_from(house, "a")]:
            told = call(house)
            call(house).clear()
            self.assertEqual(call(house), told)
        self.assertEqual(channels(house=house), told_in(house))

    def test_unknown(self):
        for name in ODD_VALUES + ["x", ("a",), ["a"], 0]:
            check_raises(self, UnknownName, {"name": name}, channels_to, each_kind(), name)
            check_raises(self, UnknownName, {"name": name}, channels_from, each_kind(), name)

    def test_any(self):
        rng = random.Random(64)
        for _ in range(60):
            house = random_house(rng, 0.2, 0.2)
            told = channels(house)
            self.assertEqual(told, told_in(house))
            for part in house.links() + house.flows():
                tells = [channel for channel in told if channel[1] == part.name]
                reads = [channel for channel in told if channel[2] == part.name]
                self.assertEqual((channels_from(house, part.name), channels_to(house, part.name)), (tells, reads))


class Truth(unittest.TestCase):
    def test_true(self):
        house = each_kind()
        self.assertEqual([is_true(house, channel) for channel in channels(house)], [True] * len(channels(house)))

    def test_strange(self):
        for strangers in [["a"], ["l"], ["b", "p"], ["w", "e"], ["a", "b", "c"]]:
            house = each_kind().with_strange(*strangers)
            for channel in channels(house):
                told = channel[1] not in strangers and channel[2] not in strangers
                self.assertIs(is_true(house, channel), told, (strangers, channel))
        house = each_kind().with_strange("l")
        # The flow that the room is for does not count, only who tells and who reads.
        self.assertIs(is_true(house, ("room", "a", "b", "l")), True)
        self.assertIs(is_true(channel=("room", "b", "l", "l"), house=house), False)


class Values(unittest.TestCase):
    AMOUNTS = [("level", "a", "b", ""), ("level", "a", "f", ""), ("room", "a", "f", "f"), ("came", "f", "f", "f"),
               ("ask", "f", "a", "f")]
    MANNER = ("manner", "f", "a", "f")
    BIT = ("bit", "a", "f", "f")

    def test_amounts(self):
        for channel in self.AMOUNTS:
            for value in [ZERO, ONE, TOP, (1001, 1), (1, 13), (10 ** 40, 3)]:
                self.assertIs(is_value(channel, value), True)
            for value in ODD_VALUES + [0, 1, [1, 1], (), (ZERO, ONE), (ONE,), (4, 2), (-1, 1), (0, 2), (1, 0)]:
                self.assertIs(is_value(channel, value), False, value)
        self.assertIs(is_value(value=ONE, channel=self.AMOUNTS[0]), True)

    def test_manners(self):
        for value in [(), (ZERO, ONE), (ONE, ZERO), (TOP, ONE), ((1001, 1), (5, 13)), (ONE, ONE), ((2, 1), (1, 1))]:
            self.assertIs(is_value(self.MANNER, value), True, value)
        wrong = [value for value in ODD_VALUES if value != ((2, 1), (1, 1))]
        for value in wrong + [0, 1, [], ONE, [ONE, ONE], (ONE,), (ONE, ONE, ONE), (ONE, None), ((2, 2), ONE), (ONE, 1)]:
            self.assertIs(is_value(self.MANNER, value), False, value)

    def test_bits(self):
        for value in [True, False]:
            self.assertIs(is_value(self.BIT, value), True)
        wrong = [value for value in ODD_VALUES if not isinstance(value, bool)]
        for value in wrong + [0, 1, ONE, ZERO, (), "True", (True,), FLOW]:
            self.assertIs(is_value(self.BIT, value), False, value)

    def test_first_values(self):
        house = House(
            3, Link("a", (4, 1)), Link("b", (6, 1)),
            Flow("l", ["b", "a"], [(7, 2), (5, 1)], least=ONE, cap=(9, 1), manner=((1, 2), (3, 1))),
            Flow("e", ["a", "b"], [ZERO, (11, 1)], kind="eager", manner=()),
            flow("p", "b", "a", kind="probe", size=2), flow("w", "a", kind="window", size=ONE, cap=(2, 1)),
        )
        for channel, value in [
            (("level", "a", "b", ""), TOP), (("level", "b", "l", ""), TOP),
            (("manner", "l", "a", "l"), ((1, 2), (3, 1))), (("manner", "e", "b", "e"), ()),
            (("manner", "p", "a", "p"), (ZERO, TOP)), (("manner", "w", "a", "w"), (ZERO, (2, 1))),
            (("room", "b", "l", "l"), (7, 2)), (("room", "a", "b", "l"), (5, 1)),
            (("room", "a", "e", "e"), ZERO), (("room", "b", "a", "e"), (11, 1)), (("room", "a", "b", "p"), (20, 1)),
            (("came", "w", "w", "w"), ZERO), (("ask", "p", "b", "p"), ZERO), (("bit", "b", "p", "p"), False),
        ]:
            self.assertIn(channel, channels(house))
            found = first_value(house, channel)
            self.assertEqual(found, value)
            self.assertIs(found.__class__, value.__class__)
            self.assertEqual(first_value(channel=channel, house=house.with_strange("a", "l", "p")), value)

    def test_first_values_are_values(self):
        rng = random.Random(65)
        for _ in range(30):
            house = random_house(rng, 0.2, 0.2)
            for channel in channels(house):
                self.assertIs(is_value(channel, first_value(house, channel)), True)


if __name__ == "__main__":
    unittest.main()
