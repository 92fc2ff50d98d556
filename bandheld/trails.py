"""Trails: what was played, tick by tick."""

from bandheld.basics import is_number_within
from bandheld.errors import NoSuchTick


class Page:
    """What was played in one tick, in dicts from links, flows, and pairs of a flow and a hop."""

    def __init__(self):
        self.capacity = {}
        self.noted = {}
        self.level = {}
        self.allotted = {}
        self.sent = {}
        self.spilled = {}
        self.come = {}
        self.left = {}


class Trail:
    """The pages of the ticks that were played; a page that is kept does not change any more."""

    def __init__(self):
        self._pages = []

    def add(self, page):
        """Keeps the page of the next tick."""
        self._pages.append(page)

    def page(self, tick):
        """The page of any value as a tick."""
        if not is_number_within(tick, 0, len(self._pages) - 1):
            raise NoSuchTick(tick)
        return self._pages[tick]

    def pages(self, first, last):
        """The pages of those ticks from first to last that were played."""
        return self._pages[max(first, 0):max(last + 1, 0)]

    def copy(self):
        """A trail with the same pages, to which others may be added."""
        other = Trail()
        other._pages = list(self._pages)
        return other
