"""Ears: the notes that a reader holds."""

from bandheld.errors import Future


class Ears:
    """The last made note of each channel among those that came to one reader."""

    def __init__(self, age):
        self._age = age
        self._notes = {}

    def hear(self, channel, tick, value, now):
        """Takes in a note ahead of the tick now."""
        if tick >= now:
            raise Future(tick)
        held = self.note(channel)
        if held is None or held[0] < tick:
            self.force(channel, tick, value)

    def note(self, channel):
        """The pair (tick, value) that is held, or None."""
        return self._notes.get(channel)

    def counting(self, channel, now):
        """The pair that is held, if it counts at the tick now."""
        held = self.note(channel)
        if held is None or held[0] >= now:
            return None
        if channel[0] != "came" and held[0] < now - self._age:
            return None
        return held

    def force(self, channel, tick, value):
        """Holds a note in the place of any other."""
        self._notes[channel] = (tick, value)

    def copy(self):
        """Ears with the same notes, which share nothing with these."""
        other = Ears(self._age)
        other._notes = {channel: self._notes[channel] for channel in self._notes}
        return other

    def __eq__(self, other):
        return isinstance(other, Ears) and self._age == other._age and self._notes == other._notes

    def __len__(self):
        return len(self._notes)

    def __bool__(self):
        return True
