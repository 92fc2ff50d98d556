import random
import unittest

from bandheld.amounts import ONE, TOP, ZERO
from bandheld.channels import channels, first_value
from bandheld.errors import (
    BadAmount, BadCapacity, BadCount, BadManner, BadValue, NoSuchLetter, NotShaky, NotStrange, UnknownChannel, UnknownHop,
    UnknownName,
)
from bandheld.flows import Flow
from bandheld.houses import House
from bandheld.links import Link
from bandheld.worlds import World
from tests.helpers import FLOW, ODD_NAMES, ODD_VALUES, check_raises, example, flow
from tests.runs import drawn_house, mixed, started, told_of

LEVEL = ("level", "a", "b", "")
MANNER = ("manner", "g", "a", "g")
ODD_COUNTS = ODD_VALUES + [-1, 2001, 10 ** 9, "1", (1, 1), [1]]


class Case(unittest.TestCase):
    def refused(self, error, told, world, name, *args, **named):
        """The call raises this error, and changes nothing that can be asked, now or a tick later."""
        before, other = told_of(world), world.copy()
        check_raises(self, error, told, getattr(world, name), *args, **named)
        self.assertEqual(told_of(world), before)
        self.assertEqual(world, other)
        ahead = world.copy()
        ahead.run(1)
        other.run(1)
        self.assertEqual(told_of(ahead), told_of(other))


class Beginning(Case):
    def test_notes(self):
        rng = random.Random(91)
        for _ in range(20):
            house = drawn_house(rng)
            world = World(house)
            for channel in channels(house):
                self.assertEqual(world.held_note(channel), (-1, first_value(house, channel)))
        house = House(
            3, Link("a", (4, 1)), Link("b", (6, 1), strange=True), Flow("f", ["a", "b"], [(3, 1), (5, 2)], least=ONE),
            flow("g", "a", kind="probe", size=2, manner=()), flow("w", "b", kind="window", size=ONE, strange=True))
        world = World(house=house)
        for channel, value in [
            (("level", "a", "b", ""), TOP), (("level", "b", "f", ""), TOP), (("manner", "f", "b", "f"), (ONE, TOP)),
            (("manner", "g", "a", "g"), ()), (("room", "a", "f", "f"), (3, 1)), (("room", "b", "a", "f"), (5, 2)),
            (("ask", "g", "a", "g"), ZERO), (("bit", "a", "g", "g"), False), (("came", "w", "w", "w"), ZERO),
        ]:
            self.assertEqual(world.held_note(channel=channel), (-1, value))

    def test_now_and_calm(self):
        world = World(mixed())
        self.assertEqual((world.now, world.calm_since, world.house), (0, 0, mixed()))
        own = mixed()
        self.assertIs(World(own).house, own)
        for name in ["now", "calm_since", "house"]:
            self.assertIsInstance(vars(World)[name], property)
            with self.assertRaises(AttributeError):
                setattr(world, name, 5)

    def test_nothing_is_there(self):
        world = World(mixed())
        self.assertEqual((world.letters(), world.deeds(), world.book()), ([], [], []))
        for part in mixed().flows():
            self.assertEqual((world.on_wires(part.name), world.delivered(part.name, -9, 9)), (ZERO, ZERO))
            self.assertEqual([world.held_now(part.name, hop + 1) for hop in range(part.last)], [ZERO] * part.last)
        self.assertEqual((world.rate("p"), world.asked("p"), world.present()), (ZERO, (500, 1), mixed()))

    def test_capacities_are_low(self):
        world = World(mixed())
        world.tick()
        self.assertEqual([row[1:3] for row in world.book()], [("a", (4, 1)), ("c", (5, 2))])
        # A strange shaky link begins with its low capacity as well, but nobody can see it.
        world.set_capacity("b", (6, 1))
        world.tick()
        self.assertEqual([row[1:3] for row in world.book()[2:]], [("a", (4, 1)), ("c", (5, 2))])

    def test_repr(self):
        world = World(mixed())
        self.assertEqual(repr(world), "World(3 links, 6 flows, tick 0)")
        world.run(5)
        self.assertEqual(repr(world), "World(3 links, 6 flows, tick 5)")
        self.assertEqual(repr(World(House(1))), "World(0 links, 0 flows, tick 0)")
        self.assertEqual(repr(World(House(1, Link("a", ONE), FLOW))), "World(1 links, 1 flows, tick 0)")

    def test_empty_house(self):
        world = World(House(3))
        world.run(4)
        self.assertEqual((world.now, world.calm_since, world.letters(), world.book()), (4, 0, [], []))
        self.assertEqual(world.deeds(), [("carry_old", 1), ("tick",)] * 4)


class Letters(Case):
    def test_carry(self):
        world = World(example(3))
        world.tick()
        letters = world.letters()
        self.assertEqual(letters[0], (0, ("level", "a", "b", ""), 0, (2, 1)))
        self.assertIs(world.carry(0), None)
        self.assertIs(world.carry(number=4), None)
        self.assertEqual(world.letters(), letters[1:4] + letters[5:])
        self.assertEqual(world.held_note(LEVEL), (0, (2, 1)))
        self.assertEqual(world.held_note(("level", "b", "f", "")), (0, (3, 1)))
        self.assertEqual(world.held_note(("level", "b", "a", "")), (-1, TOP))

    def test_lose(self):
        world = World(example(3))
        world.tick()
        letters = world.letters()
        self.assertIs(world.lose(number=0), None)
        self.assertIs(world.lose(3), None)
        self.assertEqual(world.letters(), letters[1:3] + letters[4:])
        self.assertEqual(world.held_note(LEVEL), (-1, TOP))
        self.refused(NoSuchLetter, {"number": 0}, world, "carry", 0)

    def test_copy_letter(self):
        world = World(example(3))
        world.tick()
        letters = world.letters()
        many = len(letters)
        self.assertEqual((world.copy_letter(2), world.copy_letter(number=2), world.copy_letter(many)),
                         (many, many + 1, many + 2))
        self.assertEqual(world.letters(), letters + [(many + more,) + letters[2][1:] for more in range(3)])
        for number in [many + 1, 2]:
            world.carry(number)
        self.assertEqual(world.held_note(letters[2][1]), letters[2][2:])
        world.tick()
        self.assertEqual(world.letters()[-1][0], 2 * many + 2)

    def test_late_doubled_and_overtaken(self):
        world = World(example(3))
        world.change("g", (ZERO, ONE))
        world.tick()
        old = [number for number, channel, _, _ in world.letters() if channel == MANNER][0]
        double = world.copy_letter(old)
        world.change("g", (ZERO, (2, 1)))
        world.tick()
        young = [number for number, channel, _, _ in world.letters() if channel == MANNER][-1]
        world.carry(young)
        self.assertEqual(world.held_note(MANNER), (1, (ZERO, (2, 1))))
        world.carry(old)
        self.assertEqual(world.held_note(MANNER), (1, (ZERO, (2, 1))))
        world.run(9, age=2000)
        self.assertEqual(world.held_note(MANNER), (1, (ZERO, (2, 1))))
        world.carry(double)
        self.assertEqual(world.held_note(MANNER), (1, (ZERO, (2, 1))))
        # By now each note is too old to count, and links without flows rise to the top.
        world.tick()
        self.assertEqual(world.level_at("a", world.now - 1), TOP)

    def test_no_such_letter(self):
        world = started()
        numbers = [letter[0] for letter in world.letters()]
        for number in ODD_VALUES + [-1, 0, numbers[0] - 1, numbers[-1] + 1, 10 ** 9, "9", (numbers[0],), [numbers[0]]]:
            for name in ["carry", "lose", "copy_letter"]:
                check_raises(self, NoSuchLetter, {"number": number}, getattr(world, name), number)
        for name in ["carry", "lose", "copy_letter"]:
            for number in [True, -1, numbers[-1] + 1]:
                self.refused(NoSuchLetter, {"number": number}, world, name, number)
        first = World(example(3))
        first.tick()
        for number in [True, False]:
            self.refused(NoSuchLetter, {"number": number}, first, "carry", number)

    def test_carry_old(self):
        for age in [1, 2, 3, 4, 2000]:
            world = World(example(3))
            for _ in range(4):
                world.tick()
            letters = world.letters()
            due = [letter for letter in letters if letter[2] <= 4 - age]
            self.assertEqual(world.carry_old(age), len(due))
            self.assertEqual(world.letters(), [letter for letter in letters if letter not in due])
            self.assertEqual(world.held_note(LEVEL)[0], max(4 - age, -1))
            self.assertEqual(world.carry_old(age=age), 0)
            self.assertEqual(world.deeds()[-2:], [("carry_old", age)] * 2)
        world = World(example(3))
        world.tick()
        self.assertEqual((world.carry_old(), world.held_note(LEVEL)[0]), (len(channels(example(3))), 0))

    def test_carry_old_goes_by_the_numbers(self):
        # The older letter has the greater number; of two of one tick the one that comes first stays.
        world = World(example(3))
        world.stir(letters=[(MANNER, -1, (ZERO, ONE)), (MANNER, -2, ()), (MANNER, -1, ())])
        self.assertEqual(world.carry_old(2), 1)
        self.assertEqual(world.held_note(MANNER), (-1, (ZERO, TOP)))
        again = World(example(3))
        again.stir(held=[(MANNER, -3, ())], letters=[(MANNER, -1, (ZERO, ONE)), (MANNER, -2, ()), (MANNER, -1, ())])
        self.assertEqual((again.carry_old(1), again.held_note(MANNER)), (3, (-1, (ZERO, ONE))))

    def test_bad_ages(self):
        world = started()
        for age in ODD_COUNTS + [0]:
            check_raises(self, BadCount, {"value": age}, world.carry_old, age)
        for age in [0, 2001, True, None]:
            self.refused(BadCount, {"value": age}, world, "carry_old", age)

    def test_run(self):
        world, other = World(example(3)), World(example(3))
        self.assertIs(world.run(5), None)
        for _ in range(5):
            other.carry_old(1)
            other.tick()
        self.assertEqual((world, told_of(world)), (other, told_of(other)))
        world.run(count=3, age=2)
        self.assertEqual((world.now, world.deeds()[-2:]), (8, [("carry_old", 2), ("tick",)]))
        world.run(0)
        self.assertEqual((world.now, len(world.deeds())), (8, 16))
        with self.assertRaises(TypeError):
            world.run(1, 2)

    def test_bad_runs(self):
        world = started()
        for count in ODD_COUNTS:
            check_raises(self, BadCount, {"value": count}, world.run, count, age=None)
        for age in ODD_COUNTS + [0]:
            for count in [0, 1, 2000]:
                check_raises(self, BadCount, {"value": age}, world.run, count, age=age)
        self.refused(BadCount, {"value": 0}, world, "run", 3, age=0)
        self.refused(BadCount, {"value": -1}, world, "run", -1, age=0)

    def test_longest_run(self):
        world = World(House(1, Link("a", ONE), Flow("f", ["a"], [(2, 1)])))
        world.run(2000)
        self.assertEqual((world.now, world.delivered("f", 0, 2000)), (2000, (1998, 1)))

    def test_unknown_channels(self):
        world = started()
        wrong = ODD_VALUES + [
            "level", ("level", "a", "c", ""), ("level", "a", "f", "f"), ["level", "a", "b", ""], ("level", "a", "b"),
            ("level", "a", "b", "", ""), ("level", "a", "b", None), ("room", "c", "w", "w"), ("came", "f", "f", "f"),
            (["level"], "a", "b", ""), ("level", ("a",), "b", ""), ("bit", "a", "f", "f"), ("manner", "f", "c", "f"),
        ]
        for channel in wrong:
            for name, *more in [["held_note"], ["say", ONE], ["hush"]]:
                check_raises(self, UnknownChannel, {"channel": channel}, getattr(world, name), channel, *more)
        self.refused(UnknownChannel, {"channel": "level"}, world, "say", "level", None)
        self.refused(UnknownChannel, {"channel": "level"}, world, "hush", "level")


class Strangers(Case):
    SAID = ("level", "b", "a", "")

    def test_say_and_hush(self):
        world = started()
        self.assertIs(world.say(self.SAID, (7, 1)), None)
        world.run(2)
        self.assertEqual(world.held_note(self.SAID), (4, (7, 1)))
        self.assertIs(world.hush(self.SAID), None)
        self.assertIs(world.hush(channel=self.SAID), None)
        world.run(4)
        self.assertEqual(world.held_note(self.SAID), (5, (7, 1)))
        world.say(value=TOP, channel=self.SAID)
        world.run(2)
        self.assertEqual(world.held_note(self.SAID), (10, TOP))
        self.assertEqual(world.deeds().count(("hush", self.SAID)), 2)

    def test_values(self):
        house = mixed()
        for channel in channels(house):
            if channel[1] not in ["b", "q", "s"]:
                continue
            world = World(house)
            right = {"bit": [True, False], "manner": [(), (TOP, ONE), (ONE, (1001, 2))]}
            for value in right.get(channel[0], [ZERO, TOP, (10 ** 39, 7)]):
                world.say(channel, value)
                world.run(2)
                self.assertEqual(world.held_note(channel), (world.now - 2, value))
            wrong = {"bit": [1, 0, ONE, ()], "manner": [[], ONE, (ONE,), (ONE, 1), [ONE, ONE], True]}
            for value in wrong.get(channel[0], [1, True, (), (2, 2), (-1, 1), [1, 1], (ONE, ONE)]) + [None, "1", house]:
                check_raises(self, BadValue, {"channel": channel}, world.say, channel, value)

    def test_not_strange(self):
        world = started()
        for channel in channels(mixed()):
            if channel[1] in ["b", "q", "s"]:
                continue
            for value in [ONE, (), True, None]:
                check_raises(self, NotStrange, {"name": channel[1]}, world.say, channel, value)
            check_raises(self, NotStrange, {"name": channel[1]}, world.hush, channel)
        self.refused(NotStrange, {"name": "a"}, world, "say", LEVEL, ONE)
        self.refused(NotStrange, {"name": "g"}, world, "hush", MANNER)
        self.refused(BadValue, {"channel": self.SAID}, world, "say", self.SAID, None)

    def test_send(self):
        world = started()
        self.assertIs(world.send("s", 0, (3, 1)), None)
        self.assertIs(world.send(water=(5, 2), hop=2, flow="f"), None)
        world.run(3)
        self.assertEqual([world.sent_at("s", 0, tick) for tick in [3, 4, 5, 6]], [ONE] + [(3, 1)] * 3)
        self.assertEqual(world.deeds()[-8:-6], [("send", "s", 0, (3, 1)), ("send", "f", 2, (5, 2))])

    def test_bad_sends(self):
        world = started()
        for name in ODD_NAMES:
            check_raises(self, UnknownName, {"name": name}, world.send, name, None, None)
        for name, last in [("f", 2), ("s", 2), ("g", 1), ("w", 1)]:
            for hop in ODD_VALUES + [-1, last + 1, 10 ** 9, "0", (0, 1)]:
                check_raises(self, UnknownHop, {"hop": hop}, world.send, name, hop, None)
        for name, hop, owner in [("f", 0, "f"), ("f", 1, "a"), ("s", 2, "a"), ("g", 0, "g"), ("q", 1, "c"), ("p", 1, "c")]:
            for water in [ONE, None]:
                check_raises(self, NotStrange, {"name": owner}, world.send, name, hop, water)
        for water in [value for value in ODD_VALUES if value != ZERO] + [1, (), (2, 2), (-1, 1), [1, 1]]:
            for name, hop in [("f", 2), ("s", 0), ("s", 1), ("q", 0)]:
                check_raises(self, BadAmount, {"value": water}, world.send, name, hop, water)
        self.refused(UnknownName, {"name": "a"}, world, "send", "a", 0, ONE)
        self.refused(UnknownHop, {"hop": True}, world, "send", "s", True, ONE)
        self.refused(NotStrange, {"name": "a"}, world, "send", "s", 2, ONE)
        self.refused(BadAmount, {"value": (2, 4)}, world, "send", "s", 0, (2, 4))


class Changes(Case):
    def test_set_capacity(self):
        world = started()
        for capacity in [(3, 1), (6, 1), (5, 2), (35, 13)]:
            self.assertIs(world.set_capacity("c", capacity), None)
            world.run(1)
            self.assertEqual(world.book()[-1][:3], (world.now - 1, "c", capacity))
        world.set_capacity(capacity=(11, 2), link="b")
        self.assertEqual(world.deeds()[-1], ("capacity", "b", (11, 2)))

    def test_bad_capacities(self):
        world = started()
        for name in ODD_NAMES:
            check_raises(self, UnknownName, {"name": name}, world.set_capacity, name, None)
        for capacity in [(4, 1), None]:
            check_raises(self, NotShaky, {"link": "a"}, world.set_capacity, "a", capacity)
        for capacity in ODD_VALUES + [ZERO, (2, 1), (29, 12), (73, 12), (7, 1), 3, [3, 1], (6, 2)]:
            check_raises(self, BadCapacity, {"link": "c"}, world.set_capacity, "c", capacity)
        check_raises(self, BadCapacity, {"link": "b"}, world.set_capacity, "b", (4, 1))
        self.refused(UnknownName, {"name": "f"}, world, "set_capacity", "f", ONE)
        self.refused(NotShaky, {"link": "a"}, world, "set_capacity", "a", (4, 1))
        self.refused(BadCapacity, {"link": "c"}, world, "set_capacity", "c", (7, 1))

    def test_change(self):
        world = started()
        self.assertIs(world.change("f", ()), None)
        world.change(manner=((1, 2), (2, 1)), flow="g")
        self.assertEqual(world.present(), mixed().with_manner("f", ()).with_manner("g", ((1, 2), (2, 1))))
        self.assertEqual(world.house, mixed())
        self.assertEqual(world.deeds()[-2:], [("change", "f", ()), ("change", "g", ((1, 2), (2, 1)))])
        world.change("f", (ZERO, TOP))
        self.assertEqual(world.present(), mixed().with_manner("g", ((1, 2), (2, 1))))

    def test_bad_changes(self):
        world = started()
        for name in ODD_NAMES + ["a", "s", "q"]:
            check_raises(self, UnknownName, {"name": name}, world.change, name, None)
        wrong = [((2, 1), (3, 1)), (ONE, (4, 1)), ((1, 2), (1, 3)), [], ONE, [ONE, ONE], (ONE,)]
        for manner in ODD_VALUES + wrong:
            check_raises(self, BadManner, {"flow": "g"}, world.change, "g", manner)
        self.refused(UnknownName, {"name": "s"}, world, "change", "s", ())
        self.refused(BadManner, {"flow": "g"}, world, "change", "g", (ONE, (4, 1)))

    def test_rate_and_asked(self):
        world = World(mixed())
        self.assertEqual((world.rate("p"), world.asked("p")), (ZERO, (500, 1)))
        world.run(5)
        self.assertEqual((world.rate("p"), world.asked(flow="p")), (ZERO, (250, 1)))
        world.change("p", ())
        self.assertEqual((world.rate(flow="p"), world.asked("p")), (ZERO, ZERO))
        world.change("p", (ZERO, TOP))
        self.assertEqual(world.asked("p"), (250, 1))
        for name in ODD_NAMES + ["a", "f", "g", "q", "w"]:
            check_raises(self, UnknownName, {"name": name}, world.rate, name)
            check_raises(self, UnknownName, {"name": name}, world.asked, name)


if __name__ == "__main__":
    unittest.main()
