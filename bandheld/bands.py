"""Bands: how far strangers can move the level of each link."""

from bandheld.amounts import TOP, ZERO, amount_text, compare, is_amount, smallest
from bandheld.errors import BadBand
from bandheld.levels import level_of
from bandheld.tables import entry_of, has_just


class Band:
    """A low end and a high end for each link of a house, which never change."""

    def __init__(self, house, lows, highs):
        links = house.links()
        names = [link.name for link in links]
        if not has_just(lows, names) or not has_just(highs, names):
            raise BadBand(None)
        for link in links:
            if not _are_ends(link, lows[link.name], highs[link.name]):
                raise BadBand(link.name)
        self._lows = {name: lows[name] for name in names}
        self._highs = {name: highs[name] for name in names}
        self._true = [link.name for link in links if not link.strange]

    def low_of(self, link):
        """The low end of a link."""
        return entry_of(self._lows, link)

    def high_of(self, link):
        """The high end of a link."""
        return entry_of(self._highs, link)

    def lows(self):
        """The dict from the links to their low ends."""
        return dict(self._lows)

    def highs(self):
        """The dict from the links to their high ends."""
        return dict(self._highs)

    def least_low(self, route):
        """The least low end of some links, TOP of none."""
        ends = [self.low_of(link) for link in route]
        return smallest(TOP, *ends)

    def within(self, other):
        """Whether each end lies between the ends of another band of the same links."""
        # The low ends are at most the high ones, so two of the four ways to
        # leave the other band are enough.
        return all([
            compare(other.low_of(link), self._lows[link]) <= 0
            and compare(self._highs[link], other.high_of(link)) <= 0
            for link in self._lows
        ])

    def is_point(self):
        """Whether both ends are equal at each true link."""
        return all([self._lows[link] == self._highs[link] for link in self._true])

    def __contains__(self, place):
        if not isinstance(place, tuple) or len(place) != 2:
            return False
        link, level = place
        if not isinstance(link, str) or link not in self._lows or not is_amount(level):
            return False
        return compare(self._lows[link], level) <= 0 and compare(level, self._highs[link]) <= 0

    def __eq__(self, other):
        return isinstance(other, Band) and self._lows == other._lows and self._highs == other._highs

    def __len__(self):
        return len(self._lows)

    def __bool__(self):
        return True

    def __repr__(self):
        return f"Band({_ends_text(self._lows, self._highs)})"


def _are_ends(link, low, high):
    """Whether any two values are the ends of a link in a band."""
    if not is_amount(low) or not is_amount(high):
        return False
    if link.strange:
        return low == ZERO and high == TOP
    return compare(low, high) <= 0 and compare(high, TOP) <= 0


def _ends_text(lows, highs):
    return ", ".join([f"{link} {amount_text(lows[link])} to {amount_text(highs[link])}" for link in lows])


def low_value(house, link, amounts):
    """The least level that a link can have where the other links have at most these amounts."""
    part = house.link_of(link)
    if part.strange:
        return ZERO
    wishes = [_wish(flow, link, amounts, (flow.least, flow.cap)) for flow in _flows_on(house, link)]
    return level_of(part.low, wishes)


def high_value(house, link, amounts):
    """The greatest level that a link can have where the other links have at least these amounts."""
    part = house.link_of(link)
    if part.strange:
        return TOP
    wishes = [_wish(flow, link, amounts, ()) for flow in _flows_on(house, link)]
    return level_of(part.capacity, wishes)


def _flows_on(house, link):
    return [house.flow_of(name) for name in house.on(link)]


def _wish(flow, link, amounts, told):
    """The wish of a flow at a link, where a strange flow tells this manner."""
    manner = told if flow.strange else flow.manner
    others = [amounts[other] for other in flow.route if other != link]
    return (manner, flow.weight, smallest(TOP, *others))


def first_band(house):
    """Band 0: where the levels lie whatever was told."""
    names = [flow.name for flow in house.flows()]
    strangers = house.with_strange(*names)
    tops = {link.name: TOP for link in house.links()}
    lows = {link: low_value(strangers, link, tops) for link in tops}
    return Band(house, lows, tops)


def next_band(house, band):
    """The band of the low and the high values for the ends of a band."""
    lows = band.lows()
    highs = band.highs()
    return Band(
        house,
        {link: low_value(house, link, highs) for link in lows},
        {link: high_value(house, link, lows) for link in lows},
    )


def bands(house):
    """The bands of a house, from band 0 to the last one."""
    band = first_band(house)
    further = next_band(house, band)
    while further != band:
        yield band
        band = further
        further = next_band(house, band)
    yield band


def settling(house):
    """The number of the last band."""
    return len(list(bands(house))) - 1


def last_band(house):
    """The band that all levels reach once things are settled."""
    return list(bands(house))[-1]
