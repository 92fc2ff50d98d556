import random
import unittest

from bandheld.amounts import ONE, TOP, ZERO, plus
from bandheld.errors import BadDeed, BadState, NoSuchLetter, NoSuchTick, NotShaky, UnknownChannel, UnknownHop, UnknownName
from bandheld.houses import House
from bandheld.worlds import World
from tests.helpers import HOUSE, ODD_NAMES, ODD_VALUES, check_raises, example, random_amount
from tests.runs import drawn_deeds, drawn_house, drawn_letters, drawn_stir, mixed, started, told_of

LENGTHS = {
    "tick": 1, "carry": 2, "copy": 2, "lose": 2, "carry_old": 2, "say": 3, "hush": 2, "send": 4, "capacity": 3,
    "change": 3, "stir": 7,
}


class Played(unittest.TestCase):
    def ticks(self, world):
        return ODD_VALUES + [-1, world.now, world.now + 1, 10 ** 9, "0", (0, 1), [0]]

    def test_level_at(self):
        world = started()
        self.assertEqual(world.level_at(tick=1, link="a"), world.book()[2][4])
        for link in ODD_NAMES + ["b", "f"]:
            check_raises(self, UnknownName, {"name": link}, world.level_at, link, None)
        for tick in self.ticks(world):
            check_raises(self, NoSuchTick, {"tick": tick}, world.level_at, "a", tick)
        check_raises(self, NoSuchTick, {"tick": 0}, World(mixed()).level_at, "a", 0)

    def test_allotment_at(self):
        world = started()
        self.assertEqual(world.allotment_at(tick=0, link="a", flow="s"), world.allotment_at("s", "a", 0))
        self.assertEqual([world.allotment_at(name, "a", 0) for name in "fgs"], [(4, 3)] * 3)
        for name in ODD_NAMES + ["a"]:
            check_raises(self, UnknownName, {"name": name}, world.allotment_at, name, None, None)
        for link in ODD_NAMES + ["b", "c"]:
            check_raises(self, UnknownName, {"name": link}, world.allotment_at, "f", link, None)
        for tick in self.ticks(world):
            check_raises(self, NoSuchTick, {"tick": tick}, world.allotment_at, "f", "a", tick)

    def test_hops(self):
        world = started()
        for name, first in [("sent_at", 0), ("held_at", 1), ("spilled_at", 1)]:
            call = getattr(world, name)
            self.assertEqual(call(tick=2, hop=2, flow="s"), call("s", 2, 2))
            for flow in ODD_NAMES + ["a"]:
                check_raises(self, UnknownName, {"name": flow}, call, flow, None, None)
            for hop in ODD_VALUES + [first - 1, 3, "1", (1, 1)]:
                check_raises(self, UnknownHop, {"hop": hop}, call, "s", hop, None)
            check_raises(self, UnknownHop, {"hop": 2}, call, "g", 2, 0)
            for tick in self.ticks(world):
                check_raises(self, NoSuchTick, {"tick": tick}, call, "s", 2, tick)

    def test_delivered(self):
        world = World(example(1))
        world.stir(wires=[("g", 1, -1, (5, 1))])
        world.run(9)
        each = [world.delivered_at("g", tick) for tick in range(9)]
        self.assertEqual([amount[0] for amount in each], [5, 0, 2, 2, 2, 2, 2, 2, 2])
        self.assertEqual(world.delivered_at(tick=4, flow="g"), (2, 1))
        for first in range(-2, 11):
            for last in range(-3, 12):
                told = [each[tick] for tick in range(9) if first <= tick <= last]
                self.assertEqual(world.delivered("g", first, last), plus(*told))
        self.assertEqual(world.delivered(last=10 ** 9, first=-10 ** 9, flow="g"), (19, 1))
        for name in ODD_NAMES + ["a"]:
            check_raises(self, UnknownName, {"name": name}, world.delivered_at, name, None)
            check_raises(self, UnknownName, {"name": name}, world.delivered, name, 0, 1)
            check_raises(self, UnknownName, {"name": name}, world.on_wires, name)
        for tick in self.ticks(world):
            check_raises(self, NoSuchTick, {"tick": tick}, world.delivered_at, "g", tick)

    def test_the_present(self):
        world = started()
        for flow in ODD_NAMES + ["a"]:
            check_raises(self, UnknownName, {"name": flow}, world.held_now, flow, None)
        for hop in ODD_VALUES + [0, 3, "1", (1, 1)]:
            check_raises(self, UnknownHop, {"hop": hop}, world.held_now, "s", hop)
        for part in mixed().flows():
            for hop in range(1, part.last + 1):
                self.assertEqual(world.held_now(hop=hop, flow=part.name), world.held_at(part.name, hop, world.now - 1))

    def test_what_arrives_at_the_coming_tick_is_on_the_wire(self):
        world = World(example(1))
        told = []
        for _ in range(4):
            world.run(1)
            told.append((world.on_wires("g")[0], world.held_now("g", 1)[0], world.delivered("g", 0, 9)[0]))
        self.assertEqual(told, [(20, 0, 0), (2, 18, 0), (4, 16, 2), (4, 16, 4)])
        self.assertEqual(world.on_wires(flow="g"), (4, 1))

    def test_nothing_is_lost(self):
        rng = random.Random(86)
        for _ in range(30):
            house = drawn_house(rng)
            world = World(house)
            world.stir(**drawn_stir(rng, house))
            first = {part.name: self.all_of(world, part) for part in house.flows()}
            for _ in range(15):
                for deed in drawn_deeds(rng, world):
                    world.do(deed)
                world.run(1, age=rng.randint(1, 5))
                for part in house.flows():
                    hops = range(1, part.last + 1)
                    ticks = range(world.now)
                    come = [world.delivered(part.name, 0, world.now)]
                    come += [world.spilled_at(part.name, hop, tick) for hop in hops for tick in ticks]
                    sent = [world.sent_at(part.name, 0, tick) for tick in ticks]
                    self.assertEqual(plus(first[part.name], *sent), plus(self.all_of(world, part), *come))

    def all_of(self, world, part):
        return plus(world.on_wires(part.name), *[world.held_now(part.name, hop) for hop in range(1, part.last + 1)])


class Books(unittest.TestCase):
    def test_rows(self):
        house = example(2).with_strange("g")
        world = World(house)
        world.say(("manner", "g", "a", "g"), (TOP, ONE))
        world.run(2)
        first = [(("level", "b", "a", ""), -1, TOP), (("manner", "f", "a", "f"), -1, (ZERO, TOP))]
        self.assertEqual(world.book(), [
            (0, "a", (4, 1), first + [(("manner", "g", "a", "g"), -1, (ZERO, TOP))], (2, 1)),
            (0, "b", (6, 1), [
                (("level", "a", "b", ""), -1, TOP), (("manner", "f", "b", "f"), -1, (ZERO, TOP)),
                (("manner", "h", "b", "h"), -1, (ZERO, TOP)),
            ], (3, 1)),
            # The word is kept as it was told, though it is heard as (0, 1).
            (1, "a", (4, 1), [
                (("level", "b", "a", ""), 0, (3, 1)), (("manner", "f", "a", "f"), 0, (ZERO, TOP)),
                (("manner", "g", "a", "g"), 0, (TOP, ONE)),
            ], (3, 1)),
            (1, "b", (6, 1), [
                (("level", "a", "b", ""), 0, (2, 1)), (("manner", "f", "b", "f"), 0, (ZERO, TOP)),
                (("manner", "h", "b", "h"), 0, (ZERO, TOP)),
            ], (4, 1)),
        ])
        for _ in range(3):
            world.tick()
        self.assertEqual(world.book()[-1], (4, "b", (6, 1), [], TOP))

    def test_new_lists(self):
        world = World(example(2))
        world.run(2)
        told = world.book()
        for row in world.book():
            self.assertIs(row[3].__class__, list)
            row[3].clear()
        world.book().clear()
        self.assertEqual(world.book(), told)
        world.letters().clear()
        world.deeds().clear()
        self.assertEqual((len(world.letters()) > 0, len(world.deeds())), (True, 4))


class Deeds(unittest.TestCase):
    def test_all_kinds(self):
        world = World(mixed())
        word, room = ("manner", "s", "a", "s"), ("room", "b", "a", "f")
        stir = ("stir", ((word, -1, ()),), (), (), (("f", 1, ONE),), (), ())
        deeds = [
            stir, ("tick",), ("carry", 3), ("copy", 4), ("lose", 5), ("carry_old", 1), ("say", word, ()),
            ("say", room, ONE), ("hush", room), ("send", "s", 0, (5, 2)), ("capacity", "c", (3, 1)), ("change", "f", ()),
            ("tick",),
        ]
        told = [world.do(deed) for deed in deeds]
        first = World(mixed())
        first.tick()
        many = len(first.letters())
        self.assertEqual(told, [None, None, None, many, None, many - 1, None, None, None, None, None, None, None])
        self.assertEqual(world.deeds(), deeds)
        self.assertEqual(world.held_note(word), (-1, ()))
        self.assertEqual((world.now, world.book()[-1][2], world.sent_at("s", 0, 1)), (2, (3, 1), (5, 2)))
        other = World(mixed())
        other.stir(held=[(word, -1, ())], buffers=[("f", 1, ONE)])
        other.tick()
        other.carry(3)
        self.assertEqual(other.copy_letter(4), many)
        other.lose(5)
        self.assertEqual(other.carry_old(), many - 1)
        other.say(word, ())
        other.say(room, ONE)
        other.hush(room)
        other.send("s", 0, (5, 2))
        other.set_capacity("c", (3, 1))
        other.change("f", ())
        other.tick()
        self.assertEqual((other, told_of(other)), (world, told_of(world)))

    def test_wrong_forms(self):
        for deed in ODD_VALUES + [
            (), [], "tick", ["tick"], ("tock",), (None,), ((),), (["tick"],), ({},), ("Tick",), ("",), (("tick",),), (True,),
            ("tick", 1), ("carry",), ("run", 3), ("copy_letter", 0), ("set_capacity", "c", ONE), ("stir",), (HOUSE,),
        ]:
            world = started()
            check_raises(self, BadDeed, {"at": 0}, world.do, deed)
            self.assertEqual(world, started())
        for word, length in LENGTHS.items():
            for more in range(9):
                if more + 1 != length:
                    check_raises(self, BadDeed, {"at": 0}, started().do, (word,) + (None,) * more)

    def test_errors_of_the_methods(self):
        for deed, error, told in [
            (("carry", True), NoSuchLetter, {"number": True}), (("copy", None), NoSuchLetter, {"number": None}),
            (("lose", "x"), NoSuchLetter, {"number": "x"}), (("say", 1, 2), UnknownChannel, {"channel": 1}),
            (("hush", []), UnknownChannel, {"channel": []}), (("send", "f", 9, 2), UnknownHop, {"hop": 9}),
            (("capacity", "a", 1), NotShaky, {"link": "a"}), (("change", "s", ()), UnknownName, {"name": "s"}),
        ]:
            world = started()
            check_raises(self, error, told, world.do, deed)
            self.assertEqual((world.deeds(), told_of(world)), (started().deeds(), told_of(started())))
        check_raises(self, BadState, {"what": "sent", "at": -1}, World(mixed()).do, ("stir", [], (), [], (), None, None))

    def test_lists_in_a_stir(self):
        world = World(mixed())
        self.assertIs(world.do(deed=("stir", [], [], [("f", 0, -1, ONE)], [], [], [])), None)
        self.assertEqual(world.deeds(), [("stir", (), (), (("f", 0, -1, ONE),), (), (), ())])

    def test_refused_deeds_are_not_kept(self):
        world = World(mixed())
        for deed in [("carry", 0), ("change", "s", ()), ("carry_old", 0), ("send", "f", 0, ONE)]:
            with self.assertRaises((LookupError, ValueError, RuntimeError)):
                world.do(deed)
        self.assertEqual((world.deeds(), world), ([], World(mixed())))


class Equality(unittest.TestCase):
    def test_equal_deeds(self):
        one, two = World(example(2)), World(example(2))
        self.assertTrue(one == two)
        one.run(2)
        self.assertTrue(one != two)
        for _ in range(2):
            two.carry_old(1)
            two.tick()
        self.assertTrue(one == two)
        two.carry_old(2000)
        self.assertFalse(one == two)
        # Both are in the same state now, but other deeds led there.
        self.assertEqual(told_of(one)[:4], told_of(two)[:4])

    def test_houses(self):
        self.assertFalse(World(example(2)) == World(example(3)))
        self.assertFalse(World(example(2)) == World(example(2).with_strange("g")))
        parts = example(2).flows() + example(2).links()
        self.assertTrue(World(example(2)) == World(House(2, *parts)))

    def test_other_classes(self):
        world = World(example(2))
        for other in [example(2), None, 0, "World", [], world.deeds(), ()]:
            self.assertFalse(world == other)
            self.assertFalse(other == world)
            self.assertTrue(world != other)

    def test_manners_are_deeds(self):
        one, two = World(example(2)), World(example(2).with_manner("f", ()))
        one.change("f", ())
        self.assertEqual(one.present(), two.present())
        self.assertFalse(one == two)


class Copies(unittest.TestCase):
    def test_copies_go_on_by_themselves(self):
        rng = random.Random(85)
        for _ in range(40):
            house = drawn_house(rng)
            world = World(house)
            world.stir(**drawn_stir(rng, house))
            for _ in range(rng.randint(0, 9)):
                self.step(rng, world)
            other = world.copy()
            self.assertIs(other.__class__, World)
            before = told_of(world)
            self.assertEqual((other, told_of(other)), (world, before))
            for _ in range(5):
                self.step(rng, other)
            self.assertEqual(told_of(world), before)
            after = told_of(other)
            seed = rng.random()
            again = World(house)
            for deed in other.deeds():
                again.do(deed)
            self.assertEqual((again, told_of(again)), (other, after))
            first, second = world.copy(), world.copy().copy()
            for copy in [first, second]:
                drawn = random.Random(seed)
                for _ in range(4):
                    self.step(drawn, copy)
            self.assertEqual((first, told_of(first)), (second, told_of(second)))
            self.assertEqual((told_of(other), told_of(world)), (after, before))

    def step(self, rng, world):
        for deed in drawn_deeds(rng, world) + drawn_letters(rng, world, 0.1, 1):
            world.do(deed)
        world.tick()

    def test_amounts_stay_amounts(self):
        rng = random.Random(87)
        world = World(mixed())
        for _ in range(12):
            world.send("s", 0, random_amount(rng))
            world.run(1)
        for row in world.book():
            self.assertEqual([row[2].__class__, row[4].__class__], [tuple, tuple])


if __name__ == "__main__":
    unittest.main()
