"""Letters under way, in bags."""

from bandheld.basics import is_number
from bandheld.errors import NoSuchLetter


class Bag:
    """Letters (number, channel, tick, value), whose numbers count up from 0."""

    def __init__(self):
        # Numbers only rise, so the letters stand in the order of their numbers.
        self._letters = {}
        self._coming = 0

    def put(self, channel, tick, value):
        """Puts in a new letter; returns its number."""
        number = self._coming
        self._letters[number] = (number, channel, tick, value)
        self._coming = number + 1
        return number

    def take(self, number):
        """Takes a letter out and returns it."""
        letter = self._letter(number)
        del self._letters[number]
        return letter

    def double(self, number):
        """Copies a letter; returns the number of the copy."""
        _, channel, tick, value = self._letter(number)
        return self.put(channel, tick, value)

    def letters(self):
        """The letters, ascending."""
        return list(self._letters.values())

    def older(self, tick):
        """The letters that were made at this tick or earlier, ascending."""
        return [letter for letter in self.letters() if letter[2] <= tick]

    def copy(self):
        """A bag with the same letters and the same next number."""
        other = Bag()
        other._letters = {number: self._letters[number] for number in self._letters}
        other._coming = self._coming
        return other

    def _letter(self, number):
        """The letter with any value as its number."""
        if number not in self:
            raise NoSuchLetter(number)
        return self._letters[number]

    def __contains__(self, number):
        return is_number(number) and number in self._letters

    def __eq__(self, other):
        return (
            isinstance(other, Bag)
            and self._letters == other._letters
            and self._coming == other._coming
        )

    def __len__(self):
        return len(self._letters)

    def __bool__(self):
        return True
