import random
import unittest

from bandheld.amounts import ONE, TOP, ZERO
from bandheld.bands import bands, last_band
from bandheld.boxes import floors
from bandheld.errors import BadCount
from bandheld.flows import Flow
from bandheld.houses import House
from bandheld.ladders import count
from bandheld.links import Link
from bandheld.swings import lead, swing
from bandheld.worlds import World
from tests.helpers import ODD_VALUES, check_raises, example, flow
from tests.runs import drawn_deeds, drawn_house, drawn_letters, drawn_stir, first_deed, stepped_swing, turn_deeds

ODD_TURNS = ODD_VALUES + [-1, 401, 10 ** 9, "3", (3, 1), [3]]


class Case(unittest.TestCase):
    def ends(self, world, turn, band, low):
        """In a turn all levels are the ends of the band on this side."""
        told = band.lows() if low else band.highs()
        age = world.house.age
        for link in world.house.links():
            if not link.strange:
                for tick in range(turn * age, turn * age + age):
                    self.assertEqual(world.level_at(link.name, tick), told[link.name], (turn, tick))


class Deeds(Case):
    def test_one_by_one(self):
        house = House(
            2, Link("a", (4, 1), low=ONE), Link("b", (4, 1), low=(2, 1), strange=True), flow("f", "a", "b"),
            Flow("s", ["a"], [ONE], kind="eager", strange=True, least=(1, 2), cap=(3, 1), manner=()))
        told = {from_top: swing(house, 2, from_top=from_top).deeds() for from_top in [True, False]}
        self.assertEqual(told[True], [
            ("stir", (
                (("level", "a", "b", ""), -1, TOP), (("level", "a", "f", ""), -1, TOP), (("level", "b", "a", ""), -1, TOP),
                (("level", "b", "f", ""), -1, TOP), (("manner", "f", "a", "f"), -1, (ZERO, TOP)),
                (("manner", "f", "b", "f"), -1, (ZERO, TOP)), (("manner", "s", "a", "s"), -1, ((1, 2), (3, 1))),
            ), (), (), (), (), ()),
            ("capacity", "a", ONE), ("capacity", "b", (2, 1)),
            ("say", ("level", "b", "a", ""), ZERO), ("say", ("level", "b", "f", ""), ZERO),
            ("say", ("manner", "s", "a", "s"), ()),
            ("carry_old", 2), ("tick",), ("carry_old", 2), ("tick",),
            ("capacity", "a", (4, 1)), ("capacity", "b", (4, 1)),
            ("say", ("level", "b", "a", ""), TOP), ("say", ("level", "b", "f", ""), TOP),
            ("say", ("manner", "s", "a", "s"), ((1, 2), (3, 1))),
            ("carry_old", 2), ("tick",), ("carry_old", 2), ("tick",),
        ])
        self.assertEqual(told[False][1:10], told[True][10:])
        self.assertEqual(told[False][10:], told[True][1:10])
        self.assertEqual([note[2] for note in told[False][0][1]], [ZERO] * 4 + [()] * 3)
        for from_top, deeds in told.items():
            self.assertEqual(deeds, stepped_swing(house, 2, from_top).deeds())

    def test_any_house(self):
        rng = random.Random(111)
        for _ in range(30):
            house = drawn_house(rng, 0.4, 0.4)
            turns = rng.randint(0, 4)
            for from_top in [True, False]:
                world = swing(house, turns, from_top=from_top)
                self.assertIs(world.__class__, World)
                self.assertEqual((world, world.now), (stepped_swing(house, turns, from_top), turns * house.age))
                self.assertEqual(world.deeds(), stepped_swing(house, turns, from_top).deeds())

    def test_no_turns_and_defaults(self):
        self.assertEqual(swing(example(2), 0).deeds(), [first_deed(example(2), True)])
        self.assertEqual(swing(turns=3, house=example(2)), swing(example(2), 3, from_top=True))
        self.assertEqual(swing(House(1), 2).deeds(), [("stir", (), (), (), (), (), ())] + [("carry_old", 1), ("tick",)] * 2)
        world = World(example(2))
        self.assertIs(lead(world, 0), None)
        self.assertEqual(world.deeds(), [])
        with self.assertRaises(TypeError):
            swing(example(2), 1, True)
        with self.assertRaises(TypeError):
            lead(world, 1, True)

    def test_lead(self):
        house = example(2).with_strange("g")
        for low_first in [True, False]:
            world, other = World(house), World(house)
            world.run(3)
            other.run(3)
            self.assertIs(lead(turns=3, world=world, low_first=low_first), None)
            for turn in range(3):
                for deed in turn_deeds(house, turn, low_first):
                    other.do(deed)
            self.assertEqual((world, world.now), (other, 9))
        one, two = World(house), World(house)
        lead(one, 2)
        lead(two, 2, low_first=True)
        self.assertEqual(one, two)

    def test_bad_counts(self):
        world = World(example(1))
        for turns in ODD_TURNS:
            check_raises(self, BadCount, {"value": turns}, lead, world, turns)
            check_raises(self, BadCount, {"value": turns}, lead, world, turns, low_first=False)
            check_raises(self, BadCount, {"value": turns}, swing, example(1), turns)
            check_raises(self, BadCount, {"value": turns}, swing, example(1), turns, from_top=False)
        self.assertEqual((world.now, world.deeds()), (0, []))

    def test_longest(self):
        self.assertEqual(swing(House(1, Link("a", ONE), flow("f", "a")), 400).now, 400)


class Swings(Case):
    def check(self, house, more=2):
        found = list(bands(house))
        for from_top in [True, False]:
            world = swing(house, len(found) + more, from_top=from_top)
            for turn in range(len(found) + more):
                band = found[min(turn, len(found) - 1)]
                self.ends(world, turn, band, (turn % 2 == 0) == from_top)
        return len(found) - 1

    def test_the_examples(self):
        for age in [1, 2, 5]:
            self.assertEqual(self.check(example(age)), 2)
            self.assertEqual(self.check(example(age, strange=True)), 1)
            self.assertEqual(self.check(example(age, strange=True, cap=ONE)), 1)

    def test_plain_houses(self):
        rng = random.Random(112)
        seen = {self.check(drawn_house(rng, 0, 0)) for _ in range(25)}
        self.assertGreater(len(seen), 2)

    def test_shaky_and_strange_houses(self):
        rng = random.Random(113)
        seen = {self.check(drawn_house(rng, rng.choice([0.2, 0.4]), 0.5)) for _ in range(35)}
        self.assertGreater(len(seen), 2)

    def test_great_ages(self):
        rng = random.Random(114)
        for _ in range(4):
            self.check(drawn_house(rng, 0.3, 0.4, age=12), 1)


class Leading(Case):
    def test_worlds_that_have_played(self):
        rng = random.Random(115)
        floored = 0
        for _ in range(30):
            house = drawn_house(rng, rng.choice([0, 0.3]), 0.3, age=rng.randint(1, 3))
            world = World(house)
            world.stir(**drawn_stir(rng, house))
            for _ in range(rng.randint(0, 8)):
                for deed in drawn_deeds(rng, world) + drawn_letters(rng, world, 0.1, 1):
                    world.do(deed)
                world.tick()
            first, settled = world.now, 2 * count(house) + 1
            low_first = rng.random() < 0.5
            lead(world, settled + 3, low_first=low_first)
            present = world.present()
            band = last_band(present)
            for turn in range(2 * count(present) + 1, settled + 3):
                low = (turn % 2 == 0) == low_first
                floored += self.floors(world, present, range(first + turn * house.age, first + (turn + 1) * house.age), low)
                for tick in range(first + turn * house.age, first + (turn + 1) * house.age):
                    for link in house.links():
                        if not link.strange:
                            end = band.low_of(link.name) if low else band.high_of(link.name)
                            self.assertEqual(world.level_at(link.name, tick), end)
        self.assertGreater(floored, 100)

    def floors(self, world, house, ticks, low):
        """In each turn the true flows meet their floors where the document says so."""
        seen = 0
        for name, floor in floors(house).items():
            route = [house.link_of(link) for link in house.flow_of(name).route]
            true = [link.name for link in route if not link.strange]
            for tick in ticks:
                own = [world.allotment_at(name, link, tick) for link in true]
                if low and len(true) == len(route):
                    self.assertIn(floor, own)
                    seen += 1
                if not low and 0 < len(true) < len(route):
                    self.assertEqual(own, [floor] * len(true))
                    seen += 1
        return seen


if __name__ == "__main__":
    unittest.main()
