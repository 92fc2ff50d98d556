import random
import unittest

from bandheld.amounts import ONE, TOP, ZERO
from bandheld.channels import channels
from bandheld.errors import BadState, Started
from bandheld.houses import House
from bandheld.links import Link
from bandheld.worlds import World
from tests.helpers import ODD_VALUES, check_raises, flow
from tests.runs import drawn_house, drawn_stir, told_of
from tests.second import PlainWorld, check_same

PARTS = ["held", "letters", "wires", "buffers", "sent", "probes"]
LEVEL = ("level", "a", "b", "")
MANNER = ("manner", "f", "a", "f")
BIT = ("bit", "b", "p", "p")
NOTES = {
    "right": [
        (LEVEL, -1, ONE), (LEVEL, -3, (1001, 1)), (MANNER, -2, ()), (MANNER, -1, (TOP, ONE)), (BIT, -1, True),
        (("room", "a", "f", "f"), -1, ZERO), (("ask", "p", "b", "p"), -3, (10 ** 39, 7)),
        (("manner", "s", "a", "s"), -1, ()), (("level", "c", "w", ""), -1, ONE),
    ],
    "wrong": [
        (LEVEL, 0, ONE), (LEVEL, -4, ONE), (LEVEL, True, ONE), (LEVEL, None, ONE), (LEVEL, -1, 1), (LEVEL, -1, ()),
        (LEVEL, -1, (2, 2)), (LEVEL, -1), (LEVEL, -1, ONE, ONE), [LEVEL, -1, ONE], (list(LEVEL), -1, ONE),
        (("level", "a", "w", ""), -1, ONE), (("came", "w", "w", "w"), -1, ONE), (MANNER, -1, ONE), (MANNER, -1, None),
        (MANNER, -1, [ONE, ONE]), (BIT, -1, 1), (BIT, -1, ONE), ((["level"], "a", "b", ""), -1, ONE), ("level", -1, ONE),
        (1, 2, 3), (LEVEL, (-1, 1), ONE), (LEVEL, -1, [1, 1]),
    ],
}
WATER = [None, 1, True, (), (2, 2), (-1, 1), [1, 1], "1"]
RIGHT = {
    "held": NOTES["right"][:-1],
    "letters": NOTES["right"][:-1],
    "wires": [("f", 0, -4, ONE), ("f", 0, -1, ZERO), ("f", 1, -2, (10 ** 39, 7)), ("f", 2, -1, TOP), ("s", 0, -1, ONE)],
    "buffers": [("f", 1, ZERO), ("f", 1, (20, 1)), ("f", 2, (39, 2)), ("s", 1, ONE), ("p", 1, (20, 1))],
    "sent": [("f", 0, -7, ONE), ("f", 0, -1, ZERO), ("f", 1, -5, TOP), ("f", 2, -4, (10 ** 39, 7)), ("s", 1, -5, ONE)],
    "probes": [
        ("p", ZERO, (8, 1), 0, 0, ZERO), ("p", (8, 1), (8, 1), 2, -6, (8, 1)), ("p", ONE, ONE, 1, -1, (1, 3)),
    ],
}
WRONG = {
    "held": NOTES["wrong"] + [NOTES["right"][-1]],
    "letters": NOTES["wrong"] + [NOTES["right"][-1]],
    "wires": [
        ("f", 0, -5, ONE), ("f", 0, 0, ONE), ("f", 1, -3, ONE), ("f", 2, -2, ONE), ("f", 3, -1, ONE), ("f", -1, -1, ONE),
        ("f", True, -1, ONE), ("f", 0, -1), ("f", 0, -1, ONE, ONE), ["f", 0, -1, ONE], ("w", 0, -1, ONE),
        ("w", 1, -1, ONE), ("a", 0, -1, ONE), ("x", 0, -1, ONE), (["f"], 0, -1, ONE), (("f",), 0, -1, ONE),
        (None, 0, -1, ONE), ("f", None, -1, ONE), ("f", 0, None, ONE), ("f", 0, False, ONE), ("f", (0, 1), -1, ONE),
    ] + [("f", 0, -1, water) for water in WATER],
    "buffers": [
        ("f", 0, ONE), ("f", 3, ONE), ("f", True, ONE), ("f", 1), ("f", 1, ONE, ONE), ["f", 1, ONE], ("w", 1, ONE),
        ("w", 1, ZERO), ("b", 1, ONE), (["f"], 1, ONE), ("f", 1, (21, 1)), ("f", 1, (241, 12)), ("f", -1, ONE),
        ("f", "1", ONE),
    ] + [("f", 1, water) for water in WATER],
    "sent": [
        ("f", 0, -8, ONE), ("f", 0, 0, ONE), ("f", 1, -6, ONE), ("f", 2, -5, ONE), ("f", 3, -1, ONE), ("f", True, -1, ONE),
        ("f", 0, -1), ("w", 0, -1, ONE), ("w", 1, -1, ZERO), ("a", 0, -1, ONE), (("f",), 0, -1, ONE), ("f", 0, True, ONE),
    ] + [("f", 0, -1, water) for water in WATER],
    "probes": [
        ("p", ONE, ZERO, 0, 0, ZERO), ("p", ZERO, (9, 1), 0, 0, ZERO), ("p", ZERO, (8, 1), 3, 0, ZERO),
        ("p", ZERO, (8, 1), -1, 0, ZERO), ("p", ZERO, (8, 1), 0, 1, ZERO), ("p", ZERO, (8, 1), 0, -7, ZERO),
        ("p", ZERO, (8, 1), 0, 0, (9, 1)), ("p", ZERO, (8, 1), True, 0, ZERO), ("p", ZERO, (8, 1), 0, False, ZERO),
        ("p", ZERO, (8, 1), 0, 0), ["p", ZERO, (8, 1), 0, 0, ZERO], ("q", ZERO, ONE, 0, 0, ZERO),
        ("f", ZERO, ONE, 0, 0, ZERO), ("w", ZERO, ONE, 0, 0, ZERO), ("b", ZERO, ONE, 0, 0, ZERO),
        (["p"], ZERO, ONE, 0, 0, ZERO), ("p", ZERO, (8, 1), None, 0, ZERO), ("p", ZERO, (8, 1), 0, None, ZERO),
    ] + [("p", water, (8, 1), 0, 0, ZERO) for water in WATER] + [
        ("p", ZERO, water, 0, 0, ZERO) for water in WATER] + [("p", ZERO, ONE, 0, 0, water) for water in WATER],
}


def house(age=3):
    return House(
        age, Link("a", (4, 1), way=2), Link("b", (6, 1)), Link("c", (6, 1), strange=True), flow("f", "a", "b", way=4),
        flow("p", "b", kind="probe", size=3, cap=(8, 1)), flow("q", "b", kind="probe", size=3, strange=True),
        flow("s", "a", strange=True), flow("w", "c", kind="window", size=ONE),
    )


class Entries(unittest.TestCase):
    def test_right_ones(self):
        for what in PARTS:
            for entry in RIGHT[what]:
                world = World(house())
                self.assertIs(world.stir(**{what: [entry]}), None, entry)
                told = tuple([(entry,) if part == what else () for part in PARTS])
                self.assertEqual(world.deeds(), [("stir",) + told])
            World(house()).stir(**{what: tuple(RIGHT[what])})
        World(house()).stir(**RIGHT)
        World(house()).stir()

    def test_wrong_ones(self):
        for what in PARTS:
            odd = [value for value in ODD_VALUES if value not in RIGHT[what]]
            for entry in WRONG[what] + odd:
                world = World(house())
                check_raises(self, BadState, {"what": what, "at": 0}, world.stir, **{what: [entry]})
                told = RIGHT[what] + [entry, entry]
                check_raises(self, BadState, {"what": what, "at": len(RIGHT[what])}, world.stir, **{what: told})
                self.assertEqual((world, world.deeds()), (World(house()), []))

    def test_no_lists(self):
        for what in PARTS:
            for value in ODD_VALUES + [{}, {0: 1}, 5, "held", RIGHT[what][0][0]]:
                if isinstance(value, (list, tuple)):
                    continue
                world = World(house())
                check_raises(self, BadState, {"what": what, "at": -1}, world.stir, **{what: value})
                self.assertEqual(told_of(world), told_of(World(house())))

    def test_the_first_one_counts(self):
        for first in range(len(PARTS)):
            for second in range(first + 1, len(PARTS)):
                for value, at in [(None, -1), ([None], 0)]:
                    world = World(house())
                    told = {PARTS[second]: None, PARTS[first]: value}
                    check_raises(self, BadState, {"what": PARTS[first], "at": at}, world.stir, **told)
        told = dict(RIGHT, probes=[RIGHT["probes"][0], None])
        world = World(house())
        check_raises(self, BadState, {"what": "probes", "at": 1}, world.stir, **told)
        # What stands ahead of the wrong entry was not done either.
        self.assertEqual(told_of(world), told_of(World(house())))
        world.run(3)
        other = World(house())
        other.run(3)
        self.assertEqual(told_of(world), told_of(other))

    def test_started(self):
        world = World(house())
        world.tick()
        before = told_of(world)
        for told in [{}, {"held": None}, {"probes": [None]}, RIGHT]:
            check_raises(self, Started, {"tick": 1}, world.stir, **told)
        world.run(4)
        check_raises(self, Started, {"tick": 5}, world.stir, held=None)
        self.assertEqual((before[0], world.now), (1, 5))

    def test_keyword_only(self):
        with self.assertRaises(TypeError):
            World(house()).stir([])


class What(unittest.TestCase):
    def test_held(self):
        world = World(house())
        world.stir(held=[(LEVEL, -1, ONE), (MANNER, -3, ()), (LEVEL, -3, (2, 1))])
        self.assertEqual((world.held_note(LEVEL), world.held_note(MANNER)), ((-3, (2, 1)), (-3, ())))
        world.stir(held=[(LEVEL, -2, (3, 1))])
        self.assertEqual(world.held_note(LEVEL), (-2, (3, 1)))
        self.assertEqual(world.held_note(("level", "b", "a", "")), (-1, TOP))

    def test_letters(self):
        world = World(house())
        world.stir(letters=[(LEVEL, -1, ONE), (LEVEL, -1, ONE)])
        world.stir(letters=[(MANNER, -3, ())])
        self.assertEqual(world.letters(), [(0, LEVEL, -1, ONE), (1, LEVEL, -1, ONE), (2, MANNER, -3, ())])
        world.tick()
        self.assertEqual(world.letters()[3][0], 3)
        self.assertEqual((world.carry_old(4), world.held_note(MANNER)), (1, (-1, (ZERO, TOP))))

    def test_wires(self):
        world = World(house())
        world.stir(wires=[("f", 0, -4, ONE), ("f", 0, -4, (2, 1)), ("f", 0, -1, ONE)])
        world.stir(wires=[("f", 0, -1, (5, 1)), ("f", 2, -1, (1, 2))])
        self.assertEqual(world.on_wires("f"), (15, 2))
        world.tick()
        self.assertEqual((world.held_at("f", 1, 0), world.sent_at("f", 1, 0)), (ZERO, (2, 1)))
        self.assertEqual(world.delivered_at("f", 0), (1, 2))

    def test_buffers(self):
        world = World(house())
        world.stir(buffers=[("f", 1, (20, 1)), ("f", 1, (3, 1)), ("f", 2, ONE)])
        self.assertEqual((world.held_now("f", 1), world.held_now("f", 2)), ((3, 1), ONE))
        world.stir(buffers=[("f", 2, ZERO)])
        self.assertEqual((world.held_now("f", 1), world.held_now("f", 2)), ((3, 1), ZERO))

    def test_sent(self):
        # The room of 20 told at tick -1 is cut by the sends above tick -1 - 4.
        for tick, told in [(-1, 17), (-4, 17), (-5, 20), (-7, 20)]:
            world = World(house())
            world.stir(sent=[("f", 0, tick, ONE), ("f", 0, tick, (3, 1))])
            world.tick()
            self.assertEqual((world.sent_at("f", 0, 0)[0], world.on_wires("f")[0]), (told, told))
        world = World(house())
        world.stir(sent=[("f", 0, -1, (50, 1))])
        world.tick()
        self.assertEqual((world.sent_at("f", 0, 0), world.on_wires("f")), (ZERO, ZERO))

    def test_probes(self):
        world = World(house())
        world.stir(probes=[("p", ZERO, ONE, 1, 0, ZERO), ("p", (1, 2), (7, 2), 2, -6, (5, 2))])
        self.assertEqual((world.rate("p"), world.asked("p")), ((5, 2), (2, 1)))
        world.tick()
        # The present try was over, and the bit that is held at first is False.
        self.assertEqual((world.rate("p"), world.asked("p"), world.sent_at("p", 0, 0)), ((1, 2), (4, 1), (1, 2)))
        again = World(house())
        again.stir(probes=[("p", (1, 2), (7, 2), 2, -6, (5, 2))], held=[(BIT, -3, True)])
        again.tick()
        self.assertEqual((again.rate("p"), again.asked("p")), ((2, 1), (4, 1)))

    def test_not_counted_as_sent(self):
        # Stirred water has no place in what is told as sent and delivered ahead of tick 0.
        world = World(house())
        world.stir(wires=RIGHT["wires"], sent=RIGHT["sent"], buffers=RIGHT["buffers"])
        self.assertEqual((world.delivered("f", -9, 9), world.calm_since, world.now), (ZERO, 0, 0))

    def test_lists_are_copied(self):
        told = {what: list(entries) for what, entries in RIGHT.items()}
        world = World(house())
        world.stir(**told)
        deed = ("stir",) + tuple([tuple(RIGHT[what]) for what in PARTS])
        for entries in told.values():
            entries.clear()
        self.assertEqual(world.deeds(), [deed])
        again = World(house())
        again.do(deed)
        self.assertEqual((again, told_of(again)), (world, told_of(world)))

    def test_any_order_of_deeds_ahead_of_the_first_tick(self):
        world = World(house())
        world.change("f", ())
        world.say(("manner", "s", "a", "s"), ())
        world.stir(letters=[(MANNER, -1, (ZERO, ONE))])
        world.carry(0)
        world.stir(held=[(LEVEL, -1, ONE)])
        self.assertEqual([deed[0] for deed in world.deeds()], ["change", "say", "stir", "carry", "stir"])
        self.assertEqual((world.held_note(MANNER), world.calm_since), ((-1, (ZERO, TOP)), 0))

    def test_any(self):
        rng = random.Random(84)
        for _ in range(60):
            part = drawn_house(rng)
            world, plain = World(part), PlainWorld(part)
            for _ in range(rng.randint(1, 3)):
                stir = drawn_stir(rng, part)
                world.stir(**stir)
                plain.stir(**stir)
                check_same(self, world, plain)
            self.assertEqual(len(channels(part)), len(plain.notes))
            for _ in range(4):
                world.tick()
                plain.tick()
                check_same(self, world, plain)


if __name__ == "__main__":
    unittest.main()
