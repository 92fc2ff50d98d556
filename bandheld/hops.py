"""Hops: what they remember to have sent, and how much room is ahead of them."""

from bandheld.amounts import ZERO, compare, minus, plus


class Hop:
    """What one hop of a flow remembers to have sent."""

    def __init__(self, way, age):
        self._way = way
        self._age = age
        self._sent = {}

    def remember(self, tick, water):
        """Remembers what was sent at a tick, in the place of what is remembered of it."""
        # No note that counts at this tick or later asks for what is older.
        oldest = tick - self._age - self._way
        self._sent = {earlier: sent for earlier, sent in self._sent.items() if earlier >= oldest}
        self._sent[tick] = water

    def sent_after(self, tick, now):
        """The sum of what was sent above a tick and below now."""
        found = [sent for earlier, sent in self._sent.items() if tick < earlier < now]
        return plus(*found)

    def room(self, now, made, told):
        """The room ahead at the tick now, if this room was told at the tick made."""
        # What was sent a way ahead of the note had arrived when it was made.
        sent = self.sent_after(made - self._way, now)
        if compare(told, sent) < 0:
            return ZERO
        return minus(told, sent)

    def copy(self):
        """A hop that remembers the same, which shares nothing with this one."""
        other = Hop(self._way, self._age)
        other._sent = dict(self._sent)
        return other
