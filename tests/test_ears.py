import random
import unittest

from bandheld.amounts import ONE, TOP, ZERO
from bandheld.ears import Ears
from bandheld.errors import Future
from tests.helpers import HOUSE, LINK, check_raises

LEVEL = ("level", "a", "f", "")
OTHERS = [LEVEL, ("manner", "f", "a", "f"), ("room", "a", "f", "f"), ("ask", "f", "a", "f"), ("bit", "a", "f", "f")]
CAME = ("came", "f", "f", "f")


def ears_with(age, *notes):
    ears = Ears(age)
    for channel, tick, value in notes:
        ears.force(channel, tick, value)
    return ears


class Hearing(unittest.TestCase):
    def test_last_made(self):
        for channel in OTHERS + [CAME]:
            ears = Ears(3)
            self.assertIs(ears.note(channel), None)
            self.assertIs(ears.hear(channel, 4, ONE, 7), None)
            self.assertEqual(ears.note(channel), (4, ONE))
            ears.hear(channel, 3, TOP, 7)
            self.assertEqual(ears.note(channel), (4, ONE))
            ears.hear(channel, 4, TOP, 7)
            self.assertEqual(ears.note(channel), (4, ONE))
            ears.hear(channel, 5, ZERO, 7)
            self.assertEqual(ears.note(channel), (5, ZERO))
            ears.hear(channel, 6, ZERO, 7)
            self.assertEqual(ears.note(channel=channel), (6, ZERO))
            self.assertEqual(len(ears), 1)

    def test_any_value(self):
        ears = Ears(age=1)
        ears.hear(now=0, value=(), tick=-1, channel=OTHERS[1])
        ears.hear(OTHERS[4], -1, False, 0)
        self.assertEqual(ears.note(OTHERS[1]), (-1, ()))
        self.assertIs(ears.note(OTHERS[4])[1], False)
        ears.hear(OTHERS[4], 0, True, 1)
        self.assertIs(ears.note(OTHERS[4])[1], True)

    def test_future(self):
        ears = Ears(3)
        for tick, now in [(7, 7), (8, 7), (0, 0), (0, -1), (10 ** 9, 5)]:
            check_raises(self, Future, {"tick": tick}, ears.hear, LEVEL, tick, ONE, now)
            self.assertEqual((ears.note(LEVEL), len(ears)), (None, 0))
        ears.hear(LEVEL, 6, ONE, 7)
        check_raises(self, Future, {"tick": 7}, ears.hear, LEVEL, 7, TOP, 7)
        check_raises(self, Future, {"tick": 6}, ears.hear, LEVEL, 6, TOP, 6)
        self.assertEqual(ears.note(LEVEL), (6, ONE))

    def test_now_need_not_rise(self):
        ears = Ears(3)
        ears.hear(LEVEL, 6, ONE, 9)
        ears.hear(LEVEL, 2, TOP, 3)
        self.assertEqual(ears.note(LEVEL), (6, ONE))
        ears.hear(CAME, 2, TOP, 3)
        self.assertEqual((ears.note(CAME), ears.note(LEVEL)), ((2, TOP), (6, ONE)))
        ears.hear(LEVEL, 7, ZERO, 8)
        self.assertEqual(ears.note(LEVEL), (7, ZERO))

    def test_channels_apart(self):
        ears = Ears(3)
        for at, channel in enumerate(OTHERS + [CAME]):
            ears.hear(channel, at, (at, 1), 9)
            self.assertEqual(len(ears), at + 1)
        for at, channel in enumerate(OTHERS + [CAME]):
            self.assertEqual(ears.note(channel), (at, (at, 1)))


class Counting(unittest.TestCase):
    def test_each_tick(self):
        for age in [1, 2, 3, 12]:
            for channel in OTHERS:
                ears = ears_with(age, (channel, 5, ONE))
                for now in range(-3, 25):
                    told = (5, ONE) if 5 < now <= 5 + age else None
                    self.assertEqual(ears.counting(channel, now), told, (age, now))
                self.assertEqual(ears.note(channel), (5, ONE))

    def test_came_counts_however_old(self):
        for age in [1, 3, 12]:
            ears = ears_with(age, (CAME, 5, ONE))
            for now in range(-3, 6):
                self.assertIs(ears.counting(CAME, now), None)
            for now in list(range(6, 30)) + [2000, 10 ** 8]:
                self.assertEqual(ears.counting(CAME, now), (5, ONE))
            self.assertEqual(ears.note(CAME), (5, ONE))

    def test_nothing_held(self):
        ears = ears_with(3, (LEVEL, 5, ONE))
        for channel in OTHERS[1:] + [CAME]:
            self.assertIs(ears.counting(channel, 6), None)
        self.assertEqual(ears.counting(now=6, channel=LEVEL), (5, ONE))

    def test_older_notes_do_not_come_back(self):
        ears = Ears(2)
        ears.hear(LEVEL, 4, ONE, 5)
        ears.hear(LEVEL, 6, TOP, 7)
        self.assertIs(ears.counting(LEVEL, 6), None)
        self.assertIs(ears.counting(LEVEL, 5), None)
        self.assertEqual(ears.counting(LEVEL, 7), (6, TOP))


class Forcing(unittest.TestCase):
    def test_in_the_place_of_any(self):
        ears = Ears(3)
        for tick, value in [(4, ONE), (4, TOP), (2, ZERO), (-5, ONE), (9, (2, 1))]:
            self.assertIs(ears.force(LEVEL, tick, value), None)
            self.assertEqual((ears.note(LEVEL), len(ears)), ((tick, value), 1))
        ears.force(value=ONE, channel=LEVEL, tick=3)
        self.assertEqual(ears.note(LEVEL), (3, ONE))
        ears.hear(LEVEL, 4, TOP, 5)
        self.assertEqual(ears.note(LEVEL), (4, TOP))


class Copies(unittest.TestCase):
    def test_copy(self):
        ears = ears_with(3, (LEVEL, 4, ONE), (CAME, 2, TOP))
        other = ears.copy()
        self.assertIs(other.__class__, Ears)
        self.assertEqual(other, ears)
        other.hear(LEVEL, 5, ZERO, 6)
        other.force(OTHERS[1], 1, ())
        self.assertEqual((ears.note(LEVEL), ears.note(OTHERS[1]), len(ears)), ((4, ONE), None, 2))
        ears.force(CAME, 0, ONE)
        self.assertEqual(other.note(CAME), (2, TOP))
        self.assertEqual([other.counting(LEVEL, now) for now in [5, 8, 9]], [None, (5, ZERO), None])

    def test_equal(self):
        ears = ears_with(3, (LEVEL, 4, ONE), (CAME, 2, TOP))
        self.assertTrue(ears == ears_with(3, (CAME, 2, TOP), (LEVEL, 1, ZERO), (LEVEL, 4, ONE)))
        self.assertFalse(ears != ears_with(3, (CAME, 2, TOP), (LEVEL, 4, ONE)))
        self.assertTrue(Ears(2) == Ears(2))
        for other in [
            ears_with(4, (LEVEL, 4, ONE), (CAME, 2, TOP)), ears_with(3, (LEVEL, 4, ONE)), Ears(3),
            ears_with(3, (LEVEL, 4, ONE), (CAME, 2, ONE)), ears_with(3, (LEVEL, 3, ONE), (CAME, 2, TOP)),
            ears_with(3, (LEVEL, 4, ONE), (OTHERS[1], 2, TOP)), HOUSE, LINK, None, 3, "Ears", [],
        ]:
            self.assertFalse(ears == other)
            self.assertFalse(other == ears)
            self.assertTrue(ears != other)

    def test_len_and_truth(self):
        self.assertEqual((len(Ears(1)), bool(Ears(1))), (0, True))
        ears = ears_with(1, (LEVEL, 4, ONE), (LEVEL, 5, ONE), (CAME, 2, TOP))
        self.assertEqual((len(ears), bool(ears)), (2, True))


class Any(unittest.TestCase):
    def test_any(self):
        rng = random.Random(66)
        for _ in range(60):
            age = rng.randint(1, 12)
            ears = Ears(age)
            heard = {channel: [] for channel in OTHERS + [CAME]}
            for _ in range(40):
                channel = rng.choice(OTHERS + [CAME])
                tick, now = rng.randint(-5, 30), rng.randint(-5, 30)
                if tick >= now:
                    check_raises(self, Future, {"tick": tick}, ears.hear, channel, tick, ONE, now)
                else:
                    value = (rng.randint(0, 9), 1)
                    ears.hear(channel, tick, value, now)
                    heard[channel].append((tick, value))
                for told in heard:
                    held = max(heard[told], key=lambda note: note[0], default=None)
                    self.assertEqual(ears.note(told), held)
                    counts = held and held[0] < now and (told == CAME or held[0] >= now - age)
                    self.assertEqual(ears.counting(told, now), held if counts else None)


if __name__ == "__main__":
    unittest.main()
