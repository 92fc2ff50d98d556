import random
import unittest
from collections import Counter

from bandheld.amounts import ONE, TOP, ZERO
from bandheld.channels import channels, is_true
from bandheld.flows import Flow
from bandheld.houses import House
from bandheld.links import Link
from bandheld.worlds import World
from tests.helpers import example, flow, fraction
from tests.runs import drawn_deeds, drawn_house, drawn_letters, drawn_stir
from tests.second import PlainWorld, check_same, check_tick, do_both


def lonely(part, *links, age=2):
    """A house with one flow; links of capacity 4 unless they are told."""
    told = links or [Link(link, (4, 1)) for link in part.route]
    return House(age, *told, part)


def played(house, ticks, *deeds):
    """A world behind some ticks, ahead of each of which all letters are carried."""
    world = World(house)
    for deed in deeds:
        world.do(deed)
    world.run(ticks)
    return world


class SecondReckoning(unittest.TestCase):
    def check(self, rng, house, ticks, stirs=1, **drawn):
        world, plain = World(house), PlainWorld(house)
        for _ in range(stirs):
            stir = drawn_stir(rng, house)
            world.stir(**stir)
            plain.stir(**stir)
        check_same(self, world, plain)
        for _ in range(ticks):
            for deed in drawn_deeds(rng, world, drawn.get("changes", 0.1)):
                do_both(world, plain, deed)
            for deed in drawn_letters(rng, world, drawn.get("lost", 0), drawn.get("late", 0)):
                do_both(world, plain, deed)
            do_both(world, plain, ("tick",))
            check_same(self, world, plain)
        for tick in range(ticks):
            check_tick(self, world, plain, tick)
        self.assertEqual(world.book(), [
            (tick, link.name, plain.used[link.name, tick], plain.noted[link.name, tick], world.level_at(link.name, tick))
            for tick in range(ticks) for link in house.links() if not link.strange
        ])
        return world

    def test_plain_houses(self):
        rng = random.Random(81)
        for _ in range(25):
            self.check(rng, drawn_house(rng, 0, 0), 25, stirs=0, changes=0)

    def test_houses_of_all_kinds(self):
        rng = random.Random(82)
        seen = Counter()
        for _ in range(80):
            house = drawn_house(rng, rng.choice([0, 0.3, 0.6]))
            drawn = {"lost": rng.choice([0, 0.15]), "late": rng.choice([0, 1, 3]), "changes": rng.choice([0, 0.1])}
            world = self.check(rng, house, rng.choice([12, 30]), rng.randint(0, 2), **drawn)
            seen["calm"] += world.calm_since == 0
            for part in house.flows():
                seen[part.kind, part.strange] += 1
                for hop in range(1, part.last + 1):
                    seen["spilled"] += any([world.spilled_at(part.name, hop, tick) != ZERO for tick in range(12)])
            for link in house.links():
                seen[link.discipline, link.strange, link.is_shaky()] += 1
        self.assertEqual(len([key for key in seen if isinstance(key, tuple)]), 8 + 12)
        self.assertGreater(min(seen.values()), 1, seen)

    def test_long_ways_and_great_ages(self):
        rng = random.Random(83)
        for _ in range(6):
            self.check(rng, drawn_house(rng, 0.2, age=rng.choice([7, 12])), 70, lost=0.05, late=2)


class Arriving(unittest.TestCase):
    def test_each_way(self):
        # What is stirred onto the wires comes at the ticks that are told.
        house = lonely(flow("f", "a", "b", way=3, manner=()), Link("a", (4, 1), way=2), Link("b", (4, 1), way=4))
        wires = (
            ("f", 0, -3, ONE), ("f", 0, -1, (2, 1)), ("f", 1, -2, (3, 1)), ("f", 1, -1, (4, 1)), ("f", 2, -4, (5, 1)),
            ("f", 2, -1, (6, 1)),
        )
        world = World(house)
        world.stir(wires=wires)
        self.assertEqual(world.on_wires("f"), (21, 1))
        world.run(5)
        self.assertEqual([world.held_at("f", 1, tick)[0] for tick in range(5)], [1, 1, 3, 3, 3])
        self.assertEqual([world.held_at("f", 2, tick)[0] for tick in range(5)], [3, 7, 7, 7, 7])
        self.assertEqual([world.delivered_at("f", tick)[0] for tick in range(5)], [5, 0, 0, 6, 0])
        self.assertEqual((world.on_wires("f"), world.delivered("f", 0, 4)), (ZERO, (11, 1)))

    def test_spilling(self):
        # A strange source does not ask for the room ahead.
        house = lonely(Flow("f", ["a"], [(5, 2)], strange=True), Link("a", ONE))
        world = played(house, 5, ("send", "f", 0, (2, 1)))
        self.assertEqual([world.spilled_at("f", 1, tick) for tick in range(5)], [ZERO, ZERO, (1, 2), (2, 1), (2, 1)])
        # At the ticks 0 and 1 the manner that was held at first still counts.
        self.assertEqual([world.held_at("f", 1, tick) for tick in range(5)], [ZERO, ONE] + [(5, 2)] * 3)
        self.assertEqual([world.sent_at("f", 0, tick) for tick in range(5)], [(2, 1)] * 5)

    def test_what_was_sent_is_there_a_way_later(self):
        world = played(lonely(flow("f", "a", way=2), Link("a", (4, 1), way=3)), 9)
        self.assertEqual([world.sent_at("f", 0, tick)[0] for tick in range(9)], [20, 0, 0, 4, 4, 4, 4, 4, 4])
        self.assertEqual([world.sent_at("f", 1, tick)[0] for tick in range(9)], [0, 0, 4, 4, 4, 4, 4, 4, 4])
        self.assertEqual([world.delivered_at("f", tick)[0] for tick in range(9)], [0, 0, 0, 0, 0, 4, 4, 4, 4])
        self.assertEqual([world.held_at("f", 1, tick)[0] for tick in range(9)], [0, 0, 16, 12, 8, 8, 8, 8, 8])


class Levels(unittest.TestCase):
    def test_the_filling_is_reached(self):
        world = played(example(1), 4)
        levels = [(world.level_at("a", tick)[0], world.level_at("b", tick)[0]) for tick in range(4)]
        self.assertEqual(levels, [(2, 3), (2, 4), (2, 4), (2, 4)])
        self.assertEqual([world.allotment_at(name, "b", 3)[0] for name in "fh"], [2, 4])

    def test_what_is_heard_counts(self):
        world = World(example(2))
        world.change("g", ())
        world.tick()
        self.assertEqual((world.level_at("a", 0), world.allotment_at("g", "a", 0)), ((2, 1), (2, 1)))
        world.run(1)
        # With g away f, which b holds at 3, leaves something of a.
        self.assertEqual((world.level_at("a", 1), world.allotment_at("g", "a", 1)), (TOP, ZERO))
        self.assertEqual(world.allotment_at("f", "a", 1), (3, 1))

    def test_silence(self):
        # No letter comes: behind the age all is silent, and links without flows rise to the top.
        world = World(example(2))
        for _ in range(4):
            world.tick()
        self.assertEqual([world.level_at("a", tick)[0] for tick in range(4)], [2, 2, 1000, 1000])
        self.assertEqual([world.allotment_at("f", "a", tick)[0] for tick in range(4)], [2, 2, 0, 0])
        self.assertEqual([world.sent_at("f", 0, tick)[0] for tick in range(4)], [20, 0, 0, 0])
        self.assertEqual(world.book()[6:], [(3, "a", (4, 1), [], TOP), (3, "b", (6, 1), [], TOP)])

    def test_silent_link(self):
        # Only the manners come: the other link counts as 0, so f rises no further.
        world = World(example(1))
        for _ in range(3):
            for number, channel, _, _ in world.letters():
                if channel[0] == "manner":
                    world.carry(number)
            world.tick()
        self.assertEqual([world.level_at("a", tick)[0] for tick in range(3)], [2, 4, 4])
        self.assertEqual([world.allotment_at("f", "a", tick)[0] for tick in range(3)], [2, 0, 0])

    def test_cuts(self):
        house = House(2, Link("a", (9, 1)), flow("f", "a"), flow("s", "a", least=ONE, cap=(3, 1), strange=True))
        for told, allotment in [
            ((), ZERO), ((ZERO, TOP), (3, 1)), ((TOP, TOP), (3, 1)), (((2, 1), (5, 2)), (5, 2)), ((TOP, ONE), ONE),
            (((1, 2), (1, 2)), (1, 2)), (((2, 1), (1, 3)), (1, 3)),
        ]:
            world = played(house, 2, ("say", ("manner", "s", "a", "s"), told))
            self.assertEqual(world.allotment_at("s", "a", 1), allotment)
            self.assertEqual(fraction(world.level_at("a", 1)), 9 - fraction(allotment))
            self.assertEqual(world.held_note(("manner", "s", "a", "s")), (0, told))

    def test_level_above_the_top(self):
        house = House(1, Link("a", (4, 1)), Link("b", (4, 1), strange=True), flow("f", "a", "b"), flow("g", "a"))
        for told, level in [((10 ** 39, 1), (2, 1)), (ONE, (3, 1)), (ZERO, (4, 1))]:
            world = played(house, 2, ("say", ("level", "b", "a", ""), told))
            self.assertEqual(world.level_at("a", 1), level)

    def test_shaky_capacities(self):
        world = World(House(2, Link("a", (4, 1), low=(5, 2)), flow("f", "a")))
        told = []
        for capacity in [None, (4, 1), None, (3, 1), (5, 2)]:
            if capacity:
                world.set_capacity("a", capacity)
            world.run(1)
            told.append(world.level_at("a", world.now - 1))
        self.assertEqual(told, [(5, 2), (4, 1), (4, 1), (3, 1), (5, 2)])
        self.assertEqual([row[2] for row in world.book()], told)


class Sending(unittest.TestCase):
    def test_disciplines(self):
        # The allotments are 3 for e and 1 for p; what p leaves is spare.
        for discipline, of_both, of_one in [
            ("own", [(3, 1), ONE], [(3, 1), ZERO]), ("spare", [(3, 1), ONE], [(4, 1), ZERO]),
            ("ranks", [(4, 1), ZERO], [(4, 1), ZERO]),
        ]:
            house = House(
                2, Link("a", (4, 1), discipline=discipline), flow("e", "a", kind="eager"),
                flow("p", "a", kind="probe", size=1, cap=ONE, least=ONE))
            for water, told in [((9, 1), of_both), (ZERO, of_one)]:
                world = World(house)
                world.stir(buffers=[("e", 1, (9, 1)), ("p", 1, water)])
                world.tick()
                self.assertEqual([world.allotment_at(name, "a", 0) for name in "ep"], [(3, 1), ONE])
                self.assertEqual([world.sent_at(name, 1, 0) for name in "ep"], told)

    def test_ranks_take_all(self):
        house = House(1, Link("a", (4, 1), discipline="ranks"), flow("f", "a", kind="eager"), flow("g", "a"))
        world = played(house, 12)
        self.assertEqual([world.sent_at("g", 1, tick) for tick in range(2, 7)], [ZERO] * 5)
        self.assertEqual([world.sent_at("f", 1, tick) for tick in range(1, 7)], [(4, 1)] * 6)

    def test_strange_link(self):
        house = lonely(flow("f", "a", "b", manner=()), Link("a", (4, 1), strange=True), Link("b", (4, 1)))
        world = World(house)
        world.stir(buffers=[("f", 1, (9, 1))])
        world.tick()
        world.send("f", 1, (5, 1))
        for _ in range(3):
            world.tick()
        self.assertEqual([world.sent_at("f", 1, tick)[0] for tick in range(4)], [0, 5, 4, 0])

    def test_strange_source(self):
        house = lonely(flow("f", "a", cap=(5, 1), door=(7, 1), strange=True))
        world = World(house)
        told = []
        for water in [None, (6, 1), None, (7, 1), (8, 1), ZERO]:
            if water:
                world.send("f", 0, water)
            world.run(1)
            told.append(world.sent_at("f", 0, world.now - 1)[0])
        self.assertEqual(told, [0, 6, 6, 7, 7, 0])

    def test_gone_flow(self):
        for kind, size in [("level", None), ("eager", None), ("window", (9, 1)), ("probe", 2)]:
            world = played(lonely(flow("f", "a", kind=kind, size=size, cap=(8, 1))), 12)
            world.change("f", ())
            world.run(9)
            self.assertEqual([world.sent_at("f", 0, tick) for tick in range(12, 21)], [ZERO] * 9)
            world.change("f", (ZERO, (8, 1)))
            world.run(20)
            self.assertNotEqual([world.sent_at("f", 0, tick) for tick in range(21, 41)], [ZERO] * 20)

    def test_silent_room(self):
        world = World(lonely(flow("f", "a", kind="eager", cap=ONE)))
        for _ in range(5):
            for number, channel, _, _ in world.letters():
                if channel[0] != "room":
                    world.carry(number)
            world.tick()
        self.assertEqual([world.sent_at("f", 0, tick)[0] for tick in range(5)], [1, 1, 0, 0, 0])

    def test_room_is_cut(self):
        # A strange link may tell more room than there is, but it is heard as the size of the buffer.
        house = lonely(Flow("f", ["a"], [(3, 1)], kind="eager"), Link("a", (4, 1), strange=True))
        world = World(house)
        world.say(("room", "a", "f", "f"), TOP)
        world.send("f", 1, TOP)
        told = []
        for _ in range(4):
            world.run(1)
            told.append(world.sent_at("f", 0, world.now - 1)[0])
        self.assertEqual(told, [3, 0, 3, 0])


class Telling(unittest.TestCase):
    def test_numbers_channels_ticks_and_values(self):
        house = House(
            2, Link("a", (4, 1)), Link("b", (6, 1)), flow("l", "a", "b"), flow("p", "b", kind="probe", size=1),
            flow("w", "a", kind="window", size=ONE))
        world = World(house)
        world.tick()
        told = channels(house)
        self.assertEqual([letter[:3] for letter in world.letters()],
                         [(number, channel, 0) for number, channel in enumerate(told)])
        values = {letter[1]: letter[3] for letter in world.letters()}
        self.assertEqual(values, {
            ("ask", "p", "b", "p"): (500, 1), ("bit", "b", "p", "p"): True, ("came", "w", "w", "w"): ZERO,
            ("level", "a", "b", ""): (2, 1), ("level", "a", "l", ""): (2, 1), ("level", "b", "a", ""): (3, 1),
            ("level", "b", "l", ""): (3, 1), ("manner", "l", "a", "l"): (ZERO, TOP),
            ("manner", "l", "b", "l"): (ZERO, TOP), ("manner", "p", "b", "p"): (ZERO, TOP),
            ("manner", "w", "a", "w"): (ZERO, TOP), ("room", "a", "l", "l"): (20, 1), ("room", "b", "a", "l"): (20, 1),
            ("room", "b", "p", "p"): (20, 1),
        })
        world.tick()
        self.assertEqual([letter[:3] for letter in world.letters()[len(told):]],
                         [(len(told) + number, channel, 1) for number, channel in enumerate(told)])

    def test_rooms(self):
        world = World(lonely(flow("f", "a", "b")))
        world.stir(buffers=[("f", 1, (9, 1)), ("f", 2, (1, 1))])
        world.tick()
        values = {letter[1]: letter[3] for letter in world.letters()}
        # What link a sends is not in its buffer any more, and not in that of b yet.
        self.assertEqual((values["room", "a", "f", "f"], values["room", "b", "a", "f"]), ((15, 1), (20, 1)))

    def test_came(self):
        world = World(lonely(flow("w", "a", kind="window", size=(9, 1))))
        world.run(12)
        for tick in range(12):
            self.assertEqual(world.delivered("w", 0, tick)[0], [0, 0, 4, 8, 9, 13, 17, 18, 22, 26, 27, 31][tick])
        self.assertEqual(world.letters()[0][1:], (("came", "w", "w", "w"), 11, (31, 1)))
        world.tick()
        world.tick()
        told = [letter[2:] for letter in world.letters() if letter[1][0] == "came"]
        self.assertEqual(told, [(11, (31, 1)), (12, (35, 1)), (13, (36, 1))])

    def test_manners_told_are_the_present_ones(self):
        world = World(example(2))
        world.change("f", (ZERO, ONE))
        world.tick()
        values = {letter[1]: letter[3] for letter in world.letters()}
        self.assertEqual((values["manner", "f", "a", "f"], values["manner", "g", "a", "g"]), ((ZERO, ONE), (ZERO, TOP)))
        world.change("f", ())
        world.tick()
        self.assertEqual([letter[3] for letter in world.letters() if letter[1] == ("manner", "f", "b", "f")],
                         [(ZERO, ONE), ()])

    def test_bits(self):
        # The cap is 8 and the allotment 4: an ask of 4 is granted, one of 6 is not.
        world = World(lonely(flow("p", "a", kind="probe", size=2, cap=(8, 1)), age=2))
        seen = {}
        for tick in range(12):
            world.carry_old(1)
            world.tick()
            values = {letter[1]: letter[3] for letter in world.letters()}
            seen[tick] = (values["ask", "p", "a", "p"][0], values["bit", "a", "p", "p"])
        self.assertEqual([seen[tick][0] for tick in range(12)], [4] * 4 + [6] * 4 + [4] * 4)
        self.assertEqual([seen[tick][1] for tick in range(12)], [True] * 5 + [False] * 4 + [True] * 3)
        self.assertEqual([world.rate("p"), world.asked("p")], [(4, 1), (4, 1)])

    def test_silent_ask(self):
        world = World(lonely(flow("p", "a", kind="probe", size=2), age=1))
        world.tick()
        self.assertIs(world.letters()[1][3], True)
        for number in range(len(world.letters())):
            if number != 0:
                world.carry(number)
        world.tick()
        self.assertEqual(world.letters()[2][1:], (("bit", "a", "p", "p"), 1, False))

    def test_strange_tellers(self):
        house = example(2).with_strange("a", "h")
        world = World(house)
        loud = [channel for channel in channels(house) if channel[1] not in ["a", "h"]]
        world.tick()
        self.assertEqual([letter[1] for letter in world.letters()], loud)
        words = [(("level", "a", "b", ""), ONE), (("level", "a", "f", ""), TOP), (("manner", "h", "b", "h"), ()),
                 (("room", "a", "f", "f"), (3, 1))]
        for channel, word in words:
            world.say(channel, word)
        world.hush(("level", "a", "f", ""))
        for tick in [1, 2]:
            for number, *_ in world.letters():
                world.lose(number)
            world.tick()
            told = {letter[1]: letter[2:] for letter in world.letters()}
            self.assertEqual(sorted(told), sorted(loud + [words[0][0], words[2][0], words[3][0]]))
            for channel, word in [words[0], words[2], words[3]]:
                self.assertEqual(told[channel], (tick, word))
        world.say(words[1][0], (7, 1))
        world.say(words[0][0], (8, 1))
        world.tick()
        told = {letter[1]: letter[2:] for letter in world.letters()}
        self.assertEqual((told[words[1][0]], told[words[0][0]]), ((3, (7, 1)), (3, (8, 1))))

    def test_another_level_for_each_reader(self):
        house = House(
            1, Link("a", (9, 1), strange=True), Link("b", (9, 1)), Link("c", (9, 1)), flow("f", "a", "b"),
            flow("g", "a", "c"), flow("h", "b"), flow("i", "c"))
        world = played(house, 2, ("say", ("level", "a", "b", ""), ONE), ("say", ("level", "a", "c", ""), (4, 1)))
        self.assertEqual((world.level_at("b", 1), world.level_at("c", 1)), ((8, 1), (5, 1)))


class Calm(unittest.TestCase):
    def test_ticks_that_are_not_prompt(self):
        world = World(example(3))
        told = []
        for tick in range(12):
            if tick not in [3, 4, 5]:
                world.carry_old(1)
            elif tick == 5:
                for letter in world.letters()[1:]:
                    world.carry(letter[0])
            world.tick()
            told.append(world.calm_since)
        # The notes of tick 1 are young enough up to tick 4.
        self.assertEqual(told, [0] * 12)
        world = World(example(3))
        told = []
        for tick in range(12):
            if tick not in [3, 4, 5, 6]:
                world.carry_old(1)
            world.tick()
            told.append(world.calm_since)
        self.assertEqual(told, [0] * 5 + [6] + [7] * 6)

    def test_one_channel_is_enough(self):
        for at in range(len(channels(example(1)))):
            world = World(example(1))
            world.tick()
            for number, *_ in world.letters():
                if number != at:
                    world.carry(number)
            world.tick()
            self.assertEqual(world.calm_since, 2)

    def test_came_is_no_exception(self):
        world = World(lonely(flow("w", "a", kind="window", size=ONE), age=2))
        for _ in range(4):
            for number, channel, _, _ in world.letters():
                if channel[0] != "came":
                    world.carry(number)
            world.tick()
        self.assertEqual(world.calm_since, 4)

    def test_strange_channels_are_not_asked(self):
        house = example(1).with_strange("a", "h")
        world = World(house)
        for _ in range(5):
            for number, channel, _, _ in world.letters():
                if is_true(house, channel):
                    world.carry(number)
            world.tick()
        self.assertEqual(world.calm_since, 0)
        for number, channel, _, _ in world.letters():
            if channel != ("level", "b", "f", ""):
                world.carry(number)
        world.tick()
        self.assertEqual(world.calm_since, 6)

    def test_changes(self):
        world = World(example(2))
        world.change("f", ())
        self.assertEqual(world.calm_since, 0)
        world.run(4)
        self.assertEqual(world.calm_since, 0)
        world.change("f", ())
        self.assertEqual(world.calm_since, 4)
        world.run(2)
        self.assertEqual(world.calm_since, 4)
        world.change("g", world.house.flow_of("g").manner)
        self.assertEqual(world.calm_since, 6)
        for _ in range(4):
            world.tick()
        self.assertEqual(world.calm_since, 10)
        world.change("g", ())
        self.assertEqual(world.calm_since, 10)

    def test_strangers_capacities_and_stirs(self):
        house = House(
            2, Link("a", (4, 1), low=ONE), Link("b", (4, 1), strange=True), flow("f", "a", "b"),
            flow("s", "a", strange=True))
        world = World(house)
        world.stir(held=[(("level", "b", "a", ""), -2, ONE), (("manner", "f", "a", "f"), -2, ())])
        world.run(3)
        for deed in [
            ("capacity", "a", (2, 1)), ("say", ("manner", "s", "a", "s"), ()), ("send", "s", 0, ONE),
            ("hush", ("level", "b", "a", "")), ("send", "f", 2, ONE),
        ]:
            world.do(deed)
            self.assertEqual(world.calm_since, 0)
        world.run(3)
        self.assertEqual(world.calm_since, 0)

    def test_notes_of_a_stir_may_be_too_old_a_tick_later(self):
        world = World(example(2))
        world.stir(held=[(("manner", "f", "a", "f"), -2, ())])
        world.tick()
        self.assertEqual(world.calm_since, 0)
        world.tick()
        self.assertEqual(world.calm_since, 2)


if __name__ == "__main__":
    unittest.main()
