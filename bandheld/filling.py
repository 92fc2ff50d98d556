"""The filling of a plain house: its fair shares."""

from bandheld.amounts import TOP, amount_text, smallest
from bandheld.errors import NotPlain
from bandheld.levels import level_of
from bandheld.shares import share
from bandheld.tables import entry_of


class Filling:
    """The levels of the links, and the shares of the flows with their reasons."""

    def __init__(self, levels, shares, reasons):
        self._levels = {name: levels[name] for name in sorted(levels)}
        self._shares = {name: shares[name] for name in sorted(shares)}
        self._reasons = {name: reasons[name] for name in sorted(reasons)}

    def level_at(self, link):
        """The level of a link."""
        return entry_of(self._levels, link)

    def share_of(self, flow):
        """The share of a flow."""
        return entry_of(self._shares, flow)

    def reason(self, flow):
        """Why the share of a flow is not greater: gone, most or the name of a link."""
        return entry_of(self._reasons, flow)

    def levels(self):
        """The dict from the links to their levels."""
        return dict(self._levels)

    def shares(self):
        """The dict from the flows to their shares."""
        return dict(self._shares)

    def __eq__(self, other):
        return (
            isinstance(other, Filling)
            and self._levels == other._levels
            and self._shares == other._shares
        )

    def __repr__(self):
        return f"Filling({_table_text(self._levels)}; {_table_text(self._shares)})"


def _table_text(table):
    return ", ".join([f"{name} {amount_text(value)}" for name, value in table.items()])


def fill(house):
    """The filling of a plain house."""
    if not house.is_plain():
        raise NotPlain()
    levels = _full_levels(house)
    shares = {}
    reasons = {}
    for flow in house.flows():
        route = sorted(flow.route)
        heights = [levels[link] for link in route]
        lowest = smallest(*heights)
        shares[flow.name] = share(flow.manner, flow.weight, lowest)
        reasons[flow.name] = _reason(flow, shares[flow.name], route[heights.index(lowest)])
    return Filling(levels, shares, reasons)


def _full_levels(house):
    """The level at which each link is full."""
    stops = {flow.name: TOP for flow in house.flows()}
    waiting = [link.name for link in house.links()]
    levels = {}
    while waiting:
        # A flow stops to rise with the first of its links that is full. So of
        # the links that wait the one with the least level is right already.
        heights = [_level_with(house, link, stops) for link in waiting]
        lowest = smallest(*heights)
        full = waiting[heights.index(lowest)]
        levels[full] = lowest
        for flow in house.on(full):
            stops[flow] = smallest(stops[flow], lowest)
        waiting = [link for link in waiting if link != full]
    return levels


def _level_with(house, link, stops):
    """The level of a link if its flows stop to rise at these heights."""
    flows = [house.flow_of(flow) for flow in house.on(link)]
    wishes = [(flow.manner, flow.weight, stops[flow.name]) for flow in flows]
    return level_of(house.link_of(link).capacity, wishes)


def _reason(flow, amount, link):
    """The reason of the share of a flow whose link with the least level is told."""
    if flow.is_gone():
        return "gone"
    if amount == flow.manner[1]:
        return "most"
    return link
