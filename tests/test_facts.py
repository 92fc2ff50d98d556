"""What always holds, [31] to [35], in runs with drawn letters, strangers, capacities, stirs and changes."""

import random
import unittest
from collections import Counter
from fractions import Fraction

from bandheld.amounts import ONE, ZERO
from bandheld.bands import bands
from bandheld.boxes import floors
from bandheld.filling import fill
from bandheld.flows import Flow
from bandheld.houses import House
from bandheld.links import Link
from bandheld.plans import need_of, with_needs
from bandheld.worlds import World
from tests.helpers import example, flow, fraction, pair
from tests.runs import drawn_deeds, drawn_house, drawn_letters, drawn_stir, stepped_swing


def drawn_run(rng, house, ticks, stirred, troubled):
    """A world behind a run whose letters are lost and late, and whose manners change, in its first ticks alone."""
    world = World(house)
    if stirred:
        world.stir(**drawn_stir(rng, house))
    for tick in range(ticks):
        rough = tick < troubled
        for deed in drawn_deeds(rng, world, 0.02 if rough else 0):
            world.do(deed)
        for deed in drawn_letters(rng, world, 0.02 if rough else 0, 1 if rough else 0):
            world.do(deed)
        world.tick()
    return world


class Facts:
    """What the document says of the end of one run."""

    def __init__(self, world, stirred=True):
        self.world = world
        self.stirred = stirred
        self.house = world.present()
        self.age = self.house.age
        self.bands = list(bands(self.house))
        self.settled = world.calm_since + (len(self.bands) - 1) * self.age
        self.floors = {name: fraction(floor) for name, floor in floors(self.house).items()}

    def levels(self, case):
        """[31]; returns whether ticks behind the settling were seen."""
        shares = fill(self.house) if self.house.is_plain() else None
        for link in self.house.links():
            if link.strange:
                continue
            for tick in range(self.world.now):
                place = (link.name, self.world.level_at(link.name, tick))
                turn = max((tick - self.world.calm_since) // self.age, 0)
                case.assertIn(place, self.bands[min(turn, len(self.bands) - 1)])
                if shares and tick >= self.settled:
                    case.assertEqual(place[1], shares.level_at(link.name))
                own = {name: self.world.allotment_at(name, link.name, tick) for name in self.house.on(link.name)}
                case.assertLessEqual(sum(map(fraction, own.values())), fraction(link.capacity))
                if tick >= self.settled + self.age:
                    for name in set(own) & set(self.floors):
                        case.assertGreaterEqual(fraction(own[name]), self.floors[name])
                        if shares:
                            case.assertEqual(own[name], shares.share_of(name))
        return self.world.now > self.settled + self.age

    def buffers(self, case):
        """[32]; returns how many ticks spilled something where it is allowed."""
        spilling = 0
        for part in self.house.flows():
            for hop in range(part.last):
                owner = part if hop == 0 else self.house.link_of(part.route[hop - 1])
                true = not owner.strange and not self.house.link_of(part.route[hop]).strange
                way = self.house.way_of(part.name, hop)
                for tick in range(self.world.now):
                    held = self.world.held_at(part.name, hop + 1, tick)
                    case.assertLessEqual(fraction(held), fraction(part.buffers[hop]))
                    spilled = self.world.spilled_at(part.name, hop + 1, tick)
                    if part.kind == "window":
                        never = not part.strange
                    else:
                        never = true and (not self.stirred or tick >= self.age + 2 * way)
                    if never:
                        case.assertEqual(spilled, ZERO)
                    spilling += spilled != ZERO
        return spilling

    def water(self, case):
        """[33] and [34]; returns the kinds of the flows of which something was seen."""
        seen = set()
        for part in self.house.flows():
            if part.name not in self.floors:
                continue
            if part.kind == "window":
                case.assertLessEqual(self.under_way(part), fraction(part.size))
            delay = self.delay(part)
            if delay is None:
                continue
            first = self.settled + 2 * self.age + 3 * self.house.length(part.name)
            come = [Fraction(0)]
            for tick in range(self.world.now):
                come.append(come[-1] + fraction(self.world.delivered_at(part.name, tick)))
            for before in range(first, self.world.now):
                for many in range(1, self.world.now - before):
                    got = come[before + 1 + many] - come[before + 1]
                    case.assertGreaterEqual(got, self.floors[part.name] * (many - delay))
                    seen.add(part.kind)
                    if part.kind != "window" and self.is_own(part):
                        case.assertLessEqual(got, fraction(fill(self.house).share_of(part.name)) * many)
        return seen

    def under_way(self, part):
        held = [fraction(self.world.held_now(part.name, hop)) for hop in range(1, part.last + 1)]
        return fraction(self.world.on_wires(part.name)) + sum(held)

    def is_own(self, part):
        own = [self.house.link_of(link).discipline == "own" for link in part.route]
        return self.house.is_plain() and all(own)

    def delay(self, part):
        """The c of a flow whose buffers or window are large enough, None for any other one."""
        if not self.house.is_clear(part.name) or part.kind == "probe":
            return None
        if part.kind == "window":
            large = fraction(part.size) >= fraction(need_of(self.house, part.name, 0))
            return self.age + self.house.length(part.name) if large else None
        needs = [fraction(need_of(self.house, part.name, hop)) for hop in range(part.last)]
        large = all([fraction(size) >= need for size, need in zip(part.buffers, needs)])
        ways = [self.house.way_of(part.name, hop) for hop in range(part.last)]
        return self.age + max(ways) if large else None

    def probes(self, case):
        """[35] at the end of the run; returns how many probes were seen."""
        seen = 0
        first = self.settled + self.age
        for part in self.house.flows():
            searched = part.kind == "probe" and first + 4 * self.age * part.size <= self.world.now
            if not searched or part.strange or not self.house.is_clear(part.name):
                continue
            rate = fraction(self.world.rate(part.name))
            missed = fraction(part.cap) / 2 ** part.size
            case.assertGreaterEqual(rate, max(self.floors[part.name] - missed, 0))
            case.assertLessEqual(rate, max([
                fraction(self.world.allotment_at(part.name, link, tick))
                for link in part.route for tick in range(first, self.world.now)
            ]))
            seen += 1
        return seen


class DrawnRuns(unittest.TestCase):
    def check(self, rng, house, ticks, stirred, troubled, seen):
        world = drawn_run(rng, house, ticks, stirred, troubled)
        facts = Facts(world, stirred)
        seen["settled"] += facts.levels(self)
        seen["spilling"] += facts.buffers(self)
        for kind in facts.water(self):
            seen[kind] += 1
        seen["probe"] += facts.probes(self)
        seen["troubled"] += world.calm_since > house.age

    def test_calm_runs(self):
        rng = random.Random(101)
        seen = Counter()
        for _ in range(25):
            house = drawn_house(rng, rng.choice([0, 0.2]), rng.choice([0, 0.3]), age=rng.randint(1, 2), most=40)
            self.check(rng, with_needs(house), 130, rng.random() < 0.5, 0, seen)
        for key in ["settled", "spilling", "level", "eager", "window", "probe"]:
            self.assertGreater(seen[key], 1, seen)

    def test_troubled_runs(self):
        rng = random.Random(102)
        seen = Counter()
        for _ in range(25):
            house = drawn_house(rng, rng.choice([0, 0, 0.3]), rng.choice([0, 0.3]), age=rng.randint(1, 3))
            self.check(rng, house, 90, rng.random() < 0.5, rng.choice([20, 45, 90]), seen)
        for key in ["settled", "spilling", "troubled"]:
            self.assertGreater(seen[key], 3, seen)


class Levels(unittest.TestCase):
    def test_from_this_tick_on_and_not_before(self):
        # At age 2 the last level settles in turn 1, so a tick ahead of it lies outside of band 1.
        world = stepped_swing(example(2), 3)
        told = [(world.level_at("a", tick)[0], world.level_at("b", tick)[0]) for tick in range(6)]
        self.assertEqual(told, [(2, 3), (2, 3), (2, 4), (2, 4), (2, 4), (2, 4)])
        found = list(bands(example(2)))
        self.assertEqual(repr(found[-1]), "Band(a 2 to 2, b 4 to 4)")
        self.assertNotIn(("b", world.level_at("b", 1)), found[-1])

    def test_each_band_is_met_just_in_time(self):
        rng = random.Random(103)
        late = 0
        for _ in range(60):
            house = drawn_house(rng, rng.choice([0, 0.3]), 0.3, age=rng.randint(1, 3))
            found = list(bands(house))
            settling = len(found) - 1
            ends = []
            for from_top in [True, False]:
                world = stepped_swing(house, settling + 1, from_top)
                Facts(world).levels(self)
                if settling > 0:
                    tick = settling * house.age - 1
                    ends.extend([(link, world.level_at(link, tick)) in found[-1] for link in true_links(house)])
            if settling > 0:
                self.assertIn(False, ends)
                late += 1
        self.assertGreater(late, 20)


def true_links(house):
    return [link.name for link in house.links() if not link.strange]


def lonely(age, size, kind="level", ways=(1, 2), **more):
    """One flow with the share 5/2 over one link; the size is that of its buffer or of its window."""
    window = size if kind == "window" else None
    part = Flow("f", ["a"], [size], kind=kind, size=window, way=ways[0], **more)
    return House(age, Link("a", (5, 2), way=ways[1]), part)


class Water(unittest.TestCase):
    def late_run(self, house, ticks):
        """All letters are carried when they are as old as the age, and not before."""
        world = World(house)
        world.run(ticks, age=house.age)
        return world

    def most_in(self, world, many):
        return max([
            sum([fraction(world.sent_at("f", 0, tick)) for tick in range(first, first + many)])
            for first in range(world.now - many + 1)
        ])

    def test_buffers_of_just_the_need(self):
        for age, ways in [(1, (1, 1)), (3, (1, 2)), (2, (5, 3))]:
            for kind in ["level", "eager"]:
                need = need_of(lonely(age, ONE, kind, ways), "f", 0)
                self.assertEqual(need, pair(Fraction(5, 2) * (age + ways[0])))
                world = self.late_run(lonely(age, need, kind, ways), 240)
                facts = Facts(world, False)
                self.assertEqual((facts.water(self), facts.buffers(self)), ({kind}, 0))
                many = 20 * (age + ways[0])
                self.assertEqual(world.delivered("f", 240 - many, 239), pair(Fraction(5, 2) * many))

    def test_buffers_that_are_too_small(self):
        for age, ways in [(1, (1, 1)), (3, (1, 2)), (2, (5, 3))]:
            for kind in ["level", "eager"]:
                need = Fraction(5, 2) * (age + ways[0])
                small = pair(need - Fraction(1, 12))
                world = self.late_run(lonely(age, small, kind, ways), 240)
                self.assertLessEqual(self.most_in(world, age + ways[0]), fraction(small))
                many = 20 * (age + ways[0])
                come = fraction(world.delivered("f", 240 - many, 239))
                self.assertLessEqual(come, 20 * fraction(small))
                self.assertLess(come, Fraction(5, 2) * many - 1)

    def test_a_hop_sends_at_most_the_buffer_ahead(self):
        rng = random.Random(104)
        for _ in range(25):
            house = drawn_house(rng, 0.2, 0.3)
            world = self.late_run(house, 40)
            for part in house.flows():
                for hop in range(part.last):
                    owner = part if hop == 0 else house.link_of(part.route[hop - 1])
                    if part.kind == "window" or owner.strange:
                        continue
                    many = house.age + house.way_of(part.name, hop)
                    for first in range(40 - many + 1):
                        sent = [fraction(world.sent_at(part.name, hop, tick)) for tick in range(first, first + many)]
                        self.assertLessEqual(sum(sent), fraction(part.buffers[hop]))

    def test_ranks_keep_no_floor(self):
        house = House(
            1, Link("a", (4, 1), discipline="ranks"), flow("e", "a", kind="eager"), flow("f", "a", kind="eager"))
        self.assertEqual(floors(house), {"e": (2, 1), "f": (2, 1)})
        world = World(house)
        world.run(60)
        self.assertEqual(world.delivered("f", 30, 59), ZERO)


class Windows(unittest.TestCase):
    def test_the_example(self):
        house = lonely(3, (15, 1), "window")
        self.assertEqual((house.length("f"), need_of(house, "f", 0)), (3, (15, 1)))
        for size, told in [((15, 1), (15, 1)), ((14, 1), (14, 1))]:
            world = World(lonely(3, size, "window"))
            world.run(120, age=3)
            come = [fraction(world.delivered("f", first, first + 5)) for first in range(0, 114)]
            self.assertEqual(max(come), fraction(told))
            self.assertEqual(world.delivered("f", 60, 119), pair(10 * fraction(told)))
            Facts(world, False).water(self)

    def test_never_more_than_the_size_under_way(self):
        rng = random.Random(105)
        full = 0
        for _ in range(25):
            house = drawn_house(rng, 0.2, 0.3, most=5)
            world = World(house)
            world.stir(**drawn_stir(rng, house))
            for _ in range(30):
                for deed in drawn_deeds(rng, world, 0.05) + drawn_letters(rng, world, 0.2, 2):
                    world.do(deed)
                world.tick()
                for part in house.flows():
                    if part.kind == "window" and not part.strange:
                        under_way = Facts.under_way(Facts(world), part)
                        self.assertLessEqual(under_way, fraction(part.size))
                        full += part.size != ZERO and under_way == fraction(part.size)
                        self.assertEqual(world.spilled_at(part.name, 1, world.now - 1), ZERO)
        self.assertGreater(full, 20)


class Probes(unittest.TestCase):
    def test_the_rate_of_a_lonely_probe(self):
        # With the cap 8 and 3 tries the rate is the greatest whole number below the share, or at it.
        for capacity, told in [((5, 1), 5), ((11, 2), 5), ((1, 2), 0), ((12, 1), 7)]:
            house = House(2, Link("a", capacity), flow("p", "a", kind="probe", size=3, cap=(8, 1)))
            world = World(house)
            world.run(60)
            self.assertEqual(world.rate("p"), (told, 1))
            self.assertEqual(Facts(world, False).probes(self), 1)

    def test_what_a_try_asks_at_great_age(self):
        rng = random.Random(106)
        seen = 0
        for _ in range(12):
            age, tries = rng.choice([1, 3, 5]), rng.choice([1, 2, 4])
            house = House(
                age, Link("a", (7, 1)), Link("b", (9, 2)), flow("p", "a", "b", kind="probe", size=tries, cap=(9, 1)),
                flow("f", "a"), flow("w", "b", kind="window", size=(7, 1)))
            world = drawn_run(rng, house, 10 * age + 4 * age * tries + 10, True, 0)
            seen += Facts(world).probes(self)
        self.assertGreater(seen, 10)


if __name__ == "__main__":
    unittest.main()
