"""Boxes, which hold the levels whatever strangers do, and the floors of the flows."""

from bandheld.amounts import compare
from bandheld.bands import high_value, last_band, low_value
from bandheld.houses import true_flow_of
from bandheld.shares import share


def is_box(house, band):
    """Whether the values for the ends of a band lie between these ends."""
    lows = band.lows()
    highs = band.highs()
    return all([
        compare(lows[link], low_value(house, link, highs)) <= 0
        and compare(high_value(house, link, lows), highs[link]) <= 0
        for link in lows
    ])


def floor_of(house, flow):
    """The least that a true flow has once things are settled."""
    return _floor(true_flow_of(house, flow), last_band(house))


def floors(house):
    """The dict from the true flows to their floors."""
    band = last_band(house)
    return {flow.name: _floor(flow, band) for flow in house.flows() if not flow.strange}


def _floor(flow, band):
    """The floor of a flow for the last band."""
    return share(flow.manner, flow.weight, band.least_low(flow.route))
