import random
import unittest
from fractions import Fraction

from bandheld.amounts import ONE, TOP, ZERO
from bandheld.senders import EagerSender, LevelSender, ProbeSender, Sender, WindowSender, sender_of
from tests.helpers import flow, fraction, pair, random_amount, random_manner

CAME = ("came", "f", "f", "f")
WISH = (ONE, (9, 1))
OF_KIND = {
    "level": LevelSender, "eager": EagerSender, "window": WindowSender, "probe": ProbeSender,
}


def part(kind, *route, size=None, **more):
    size = size or {"window": (7, 2), "probe": 2}.get(kind)
    return flow("f", *(route or ("a", "b")), kind=kind, size=size, least=ONE, cap=(9, 1), **more)


def level(link):
    return ("level", link, "f", "")


def bit(link):
    return ("bit", link, "f", "f")


class Plain(unittest.TestCase):
    def test_attributes(self):
        for kind, made in OF_KIND.items():
            for sender in [made(part(kind), 3), made(age=3, flow=part(kind)), Sender(part(kind), 3)]:
                self.assertEqual((sender.flow, sender.age, sender.total), (part(kind), 3, ZERO))
                self.assertIsInstance(sender, Sender)
            own = part(kind)
            self.assertIs(made(own, 3).flow, own)

    def test_plain_sender(self):
        for kind in OF_KIND:
            sender = Sender(part(kind), 3)
            heard = {level("a"): TOP, level("b"): TOP, bit("a"): True, bit("b"): True, CAME: TOP}
            for now in range(9):
                self.assertEqual((sender.offer(now, WISH, heard), sender.asks(WISH)), (ZERO, ZERO))
            self.assertEqual((sender.offer(9, (), {}), sender.asks(())), (ZERO, ZERO))
            sender.note_sent(ONE)
            self.assertEqual((sender.total, sender.copy().total), (ONE, ONE))

    def test_sender_of(self):
        for kind, made in OF_KIND.items():
            sender = sender_of(part(kind), 5)
            self.assertIs(sender.__class__, made)
            self.assertEqual((sender.flow, sender.age, sender.total), (part(kind), 5, ZERO))
            self.assertIs(sender_of(age=5, flow=part(kind)).__class__, made)

    def test_subclasses(self):
        for made in OF_KIND.values():
            self.assertEqual(made.__bases__, (Sender,))

    def test_total(self):
        for kind in OF_KIND:
            sender = sender_of(part(kind), 3)
            for water, total in [(ONE, ONE), (ZERO, ONE), ((1, 2), (3, 2)), ((1, 3), (11, 6))]:
                self.assertIs(sender.note_sent(water=water), None)
                self.assertEqual(sender.total, total)


class Gone(unittest.TestCase):
    def test_offers_nothing(self):
        heard = {level("a"): TOP, level("b"): TOP, bit("a"): True, bit("b"): True, CAME: TOP}
        for kind in OF_KIND:
            sender = sender_of(part(kind), 1)
            for now in range(6):
                self.assertEqual((sender.offer(now, (), heard), sender.asks(())), (ZERO, ZERO))
        for kind, told in [("level", (9, 1)), ("eager", (9, 1)), ("window", (9, 1)), ("probe", ZERO)]:
            sender = sender_of(part(kind), 1)
            sender.offer(0, (), heard)
            self.assertEqual(sender.offer(1, WISH, heard), told)

    def test_asks_of_other_kinds(self):
        for kind in ["level", "eager", "window"]:
            sender = sender_of(part(kind), 1)
            sender.offer(0, WISH, {})
            self.assertEqual((sender.asks(WISH), sender.asks(manner=())), (ZERO, ZERO))

    def test_own_manner_and_mark_mean_nothing(self):
        heard = {level("a"): (2, 1), level("b"): (3, 1), bit("a"): True, bit("b"): True, CAME: ONE}
        for kind in OF_KIND:
            other = part(kind, manner=()).as_strange()
            one, two = sender_of(part(kind), 1), sender_of(other, 1)
            for now in range(12):
                self.assertEqual(one.offer(now, WISH, heard), two.offer(now, WISH, heard))
                self.assertEqual(one.asks(WISH), two.asks(WISH))


class Level(unittest.TestCase):
    def test_share_at_the_smallest_level(self):
        sender = LevelSender(part("level", weight=2), 3)
        for a, b, told in [
            ((2, 1), (3, 1), (4, 1)), ((3, 1), (2, 1), (4, 1)), (TOP, (7, 4), (7, 2)), (TOP, TOP, (9, 1)),
            ((9, 2), TOP, (9, 1)), ((1, 2), TOP, ONE), ((1, 3), TOP, ONE), (ZERO, TOP, ONE), ((2, 3), ONE, (4, 3)),
        ]:
            self.assertEqual(sender.offer(0, WISH, {level("a"): a, level("b"): b}), told)
        self.assertEqual(sender.offer(heard={level("a"): ONE, level("b"): ONE}, manner=WISH, now=1), (2, 1))

    def test_silent_levels(self):
        sender = LevelSender(part("level"), 3)
        for heard in [{}, {level("a"): TOP}, {level("b"): TOP}, {("level", "a", "b", ""): TOP, level("a"): TOP}]:
            self.assertEqual(sender.offer(0, WISH, heard), ONE)
            self.assertEqual(sender.offer(1, (ZERO, TOP), heard), ZERO)

    def test_any(self):
        rng = random.Random(75)
        for _ in range(100):
            route = rng.sample(["a", "b", "c", "d", "e"], rng.randint(1, 5))
            weight = rng.randint(1, 12)
            sender = LevelSender(flow("f", *route, weight=weight), 3)
            heard = {level(link): random_amount(rng, 9) for link in route if rng.random() < 0.9}
            manner = random_manner(rng)
            lowest = min([fraction(heard.get(level(link), ZERO)) for link in route])
            told = Fraction(0)
            if manner:
                told = max(fraction(manner[0]), min(fraction(manner[1]), weight * lowest))
            self.assertEqual(sender.offer(0, manner, heard), pair(told))


class Eager(unittest.TestCase):
    def test_door(self):
        sender = EagerSender(part("eager", door=(11, 1)), 3)
        for now, manner in enumerate([WISH, (ZERO, ZERO), (ZERO, TOP)]):
            self.assertEqual(sender.offer(now, manner, {}), (11, 1))
        self.assertEqual(EagerSender(part("eager"), 3).offer(0, WISH, {}), (9, 1))
        sender.note_sent(TOP)
        self.assertEqual(sender.offer(3, WISH, {}), (11, 1))


class Window(unittest.TestCase):
    def test_what_the_window_leaves(self):
        sender = WindowSender(part("window", size=(20, 1), door=(12, 1)), 3)
        self.assertEqual(sender.offer(0, WISH, {}), (12, 1))
        sender.note_sent((12, 1))
        self.assertEqual(sender.offer(1, WISH, {CAME: ZERO}), (8, 1))
        sender.note_sent((15, 2))
        for came, told in [(ZERO, (1, 2)), ((1, 2), ONE), ((10, 1), (21, 2)), ((23, 2), (12, 1)), (TOP, (12, 1))]:
            self.assertEqual(sender.offer(2, WISH, {CAME: came}), told)
        self.assertEqual(sender.offer(3, WISH, {}), (1, 2))
        self.assertEqual(sender.offer(4, WISH, {("came", "g", "g", "g"): TOP}), (1, 2))

    def test_never_below_zero(self):
        sender = WindowSender(part("window", size=ONE), 3)
        sender.note_sent((3, 1))
        for came, told in [(ZERO, ZERO), (ONE, ZERO), ((2, 1), ZERO), ((9, 4), (1, 4))]:
            self.assertEqual(sender.offer(0, WISH, {CAME: came}), told)
        empty = WindowSender(part("window").with_buffers([ONE, ONE], ZERO), 3)
        self.assertEqual((empty.offer(0, WISH, {}), empty.offer(1, WISH, {CAME: (2, 1)})), (ZERO, (2, 1)))

    def test_gone_and_back(self):
        sender = WindowSender(part("window"), 3)
        sender.note_sent((3, 1))
        self.assertEqual(sender.offer(0, (), {CAME: ONE}), ZERO)
        self.assertEqual(sender.offer(1, WISH, {CAME: ONE}), (3, 2))


def plain_cycles(tries, age, cap, plan):
    """The offers, asks and states of a probe for a plan of (manner, bit) tick by tick."""
    low, high, done, begun, rate = Fraction(0), cap, 0, 0, Fraction(0)
    for now, (manner, granted) in enumerate(plan):
        if manner == ():
            low, high, done, begun, rate = Fraction(0), cap, 0, now + 1, Fraction(0)
        elif now - begun >= 2 * age:
            middle = (low + high) / 2
            low, high = (middle, high) if granted else (low, middle)
            done, begun = done + 1, now
            if done == tries:
                low, high, done, rate = Fraction(0), cap, 0, low
        asked = (low + high) / 2 if manner else Fraction(0)
        yield pair(rate), pair(asked), (pair(low), pair(high), done, begun, pair(rate))


class Probe(unittest.TestCase):
    def test_two_tries(self):
        # Of the cap 8 first 4 is asked, then 6 and 2; a cycle has 8 ticks.
        sender = ProbeSender(flow("f", "a", kind="probe", size=2, cap=(8, 1)), 2)
        self.assertEqual(sender.state(), (ZERO, (8, 1), 0, 0, ZERO))
        self.assertEqual(sender.asks(WISH), (4, 1))
        told = []
        for now in range(20):
            offer = sender.offer(now, WISH, {bit("a"): now < 10})
            told.append((offer[0], sender.asks(WISH)[0]))
        self.assertEqual(told, [(0, 4)] * 4 + [(0, 6)] * 4 + [(6, 4)] * 4 + [(6, 2)] * 4 + [(0, 4)] * 4)
        self.assertEqual(sender.state(), (ZERO, (8, 1), 0, 16, ZERO))

    def test_a_try_needs_all_bits(self):
        for heard, low, high in [
            ({bit("a"): True, bit("b"): True}, (9, 2), (9, 1)), ({bit("a"): True, bit("b"): False}, ZERO, (9, 2)),
            ({bit("a"): False, bit("b"): True}, ZERO, (9, 2)), ({bit("a"): True}, ZERO, (9, 2)),
            ({bit("b"): True}, ZERO, (9, 2)), ({}, ZERO, (9, 2)),
            ({bit("a"): True, ("bit", "b", "g", "g"): True}, ZERO, (9, 2)),
        ]:
            sender = ProbeSender(part("probe"), 1)
            self.assertEqual([sender.offer(now, WISH, heard) for now in range(3)], [ZERO] * 3)
            self.assertEqual(sender.state(), (low, high, 1, 2, ZERO))

    def test_bits_are_asked_at_the_end_alone(self):
        sender = ProbeSender(part("probe", "a"), 2)
        for now in range(4):
            sender.offer(now, WISH, {bit("a"): True})
            self.assertEqual(sender.state(), (ZERO, (9, 1), 0, 0, ZERO))
        sender.offer(4, WISH, {bit("a"): False})
        self.assertEqual(sender.state(), (ZERO, (9, 2), 1, 4, ZERO))

    def test_one_and_twelve_tries(self):
        one = ProbeSender(part("probe", "a", size=1), 1)
        told = [one.offer(now, WISH, {bit("a"): now % 4 == 2}) for now in range(9)]
        self.assertEqual(told, [ZERO, ZERO, (9, 2), (9, 2), ZERO, ZERO, (9, 2), (9, 2), ZERO])
        many = ProbeSender(part("probe", "a", size=12), 1)
        for now in range(25):
            rate = many.offer(now, WISH, {bit("a"): True})
            self.assertEqual(rate, ZERO if now < 24 else (9 * 4095, 4096))
        self.assertEqual((many.state()[:4], many.asks(WISH)), ((ZERO, (9, 1), 0, 24), (9, 2)))

    def test_gone_in_the_middle_of_a_try(self):
        sender = ProbeSender(part("probe", "a"), 2)
        heard = {bit("a"): True}
        for now in range(9):
            sender.offer(now, WISH, heard)
        self.assertEqual(sender.state(), (ZERO, (9, 1), 0, 8, (27, 4)))
        for now in range(9, 14):
            sender.offer(now, WISH, heard)
        self.assertEqual(sender.state(), ((9, 2), (9, 1), 1, 12, (27, 4)))
        self.assertEqual(sender.asks(()), ZERO)
        self.assertEqual(sender.state(), ((9, 2), (9, 1), 1, 12, (27, 4)))
        for now in [14, 15]:
            self.assertEqual((sender.offer(now, (), heard), sender.asks(())), (ZERO, ZERO))
            self.assertEqual(sender.state(), (ZERO, (9, 1), 0, now + 1, ZERO))
        # The first whole try behind it takes the ticks 16 to 19.
        told = [(sender.offer(now, WISH, heard), sender.asks(WISH)) for now in range(16, 21)]
        self.assertEqual(told, [(ZERO, (9, 2))] * 4 + [(ZERO, (27, 4))])

    def test_state_and_force(self):
        sender = ProbeSender(part("probe", "a"), 2)
        self.assertIs(sender.force((2, 1), (5, 1), 1, -1, (3, 1)), None)
        self.assertEqual(sender.state(), ((2, 1), (5, 1), 1, -1, (3, 1)))
        self.assertEqual((sender.asks(WISH), sender.offer(2, WISH, {})), ((7, 2), (3, 1)))
        self.assertEqual(sender.state(), ((2, 1), (5, 1), 1, -1, (3, 1)))
        self.assertEqual(sender.offer(3, WISH, {}), (2, 1))
        self.assertEqual(sender.state(), (ZERO, (9, 1), 0, 3, (2, 1)))
        sender.force(rate=ZERO, begun=-4, done=0, high=(9, 1), low=(9, 1))
        self.assertEqual((sender.asks(WISH), sender.offer(0, WISH, {bit("a"): True})), ((9, 1), ZERO))
        self.assertEqual(sender.state(), ((9, 1), (9, 1), 1, 0, ZERO))

    def test_any(self):
        rng = random.Random(76)
        for _ in range(60):
            tries, age = rng.choice([1, 2, 3, 12]), rng.randint(1, 3)
            plan = [(rng.choice([WISH] * 19 + [()]), rng.random() < 0.6) for _ in range(2 * tries * 2 * age + 9)]
            if rng.random() < 0.5:
                plan = [(WISH, granted) for _, granted in plan]
            sender = ProbeSender(part("probe", size=tries), age)
            told = plain_cycles(tries, age, Fraction(9), plan)
            for now, (rate, asked, state) in enumerate(told):
                manner, granted = plan[now]
                heard = {bit("a"): granted, bit("b"): True}
                self.assertEqual(sender.offer(now, manner, heard), rate)
                self.assertEqual((sender.asks(manner), sender.state()), (asked, state))
                sender = rng.choice([sender, sender.copy()])


class Copies(unittest.TestCase):
    def test_class_and_state(self):
        for kind, made in OF_KIND.items():
            sender = sender_of(part(kind), 2)
            sender.note_sent(ONE)
            other = sender.copy().copy()
            self.assertIs(other.__class__, made)
            self.assertEqual((other.flow, other.age, other.total), (part(kind), 2, ONE))
            other.note_sent(ONE)
            sender.note_sent((5, 1))
            self.assertEqual((sender.total, other.total), ((6, 1), (2, 1)))
        self.assertIs(Sender(part("level"), 2).copy().__class__, Sender)

    def test_windows_go_on_by_themselves(self):
        sender = WindowSender(part("window"), 2)
        sender.note_sent(ONE)
        other = sender.copy()
        sender.note_sent(ONE)
        self.assertEqual((sender.offer(0, WISH, {}), other.offer(0, WISH, {})), ((3, 2), (5, 2)))

    def test_probes_go_on_by_themselves(self):
        sender = ProbeSender(part("probe", "a"), 1)
        for now in range(3):
            sender.offer(now, WISH, {bit("a"): True})
        other = sender.copy()
        self.assertEqual(other.state(), sender.state())
        other.offer(3, (), {})
        self.assertEqual((sender.state(), other.state()[2:4]), (((9, 2), (9, 1), 1, 2, ZERO), (0, 4)))
        again = sender.copy().copy()
        sender.force(ZERO, ONE, 0, 0, ONE)
        self.assertEqual(again.state(), ((9, 2), (9, 1), 1, 2, ZERO))
        self.assertEqual(again.offer(4, WISH, {bit("a"): True}), (27, 4))


if __name__ == "__main__":
    unittest.main()
