"""Verdicts: certificates whether a flow keeps an amount as its floor."""

from bandheld.amounts import amount_text, compare, is_amount
from bandheld.bands import Band, last_band, settling
from bandheld.basics import is_number_within
from bandheld.boxes import floor_of, is_box
from bandheld.errors import BadAmount, Unseen
from bandheld.houses import true_flow_of
from bandheld.shares import share
from bandheld.swings import MOST_TURNS, swing


class Kept:
    """A flow keeps a floor, as a box shows."""

    def __init__(self, flow, floor, band):
        self.flow = flow
        self.floor = floor
        self.band = band

    def __eq__(self, other):
        return (
            isinstance(other, Kept)
            and self.flow == other.flow
            and self.floor == other.floor
            and self.band == other.band
        )

    def __bool__(self):
        return True

    def __repr__(self):
        return f"Kept({self.flow}, {_text(self.floor)})"


class Broken:
    """A flow does not keep a floor, as a swing of some turns shows."""

    def __init__(self, flow, floor, turns):
        self.flow = flow
        self.floor = floor
        self.turns = turns

    def __eq__(self, other):
        return (
            isinstance(other, Broken)
            and self.flow == other.flow
            and self.floor == other.floor
            and self.turns == other.turns
        )

    def __bool__(self):
        return False

    def __repr__(self):
        return f"Broken({self.flow}, {_text(self.floor)}, {self.turns})"


def _text(floor):
    """The text of any value as a floor."""
    if is_amount(floor):
        return amount_text(floor)
    return repr(floor)


def verdict(house, flow, floor):
    """The verdict on a flow and an amount."""
    part = true_flow_of(house, flow)
    if len(_true_route(house, part)) == 0:
        raise Unseen(flow)
    if not is_amount(floor):
        raise BadAmount(floor)
    if compare(floor_of(house, flow), floor) >= 0:
        return Kept(flow, floor, last_band(house))
    turns = settling(house) + 2
    if not _is_broken_by(house, part, floor, turns):
        turns += 1
    return Broken(flow, floor, turns)


def is_right(house, verdict):
    """Whether any value is a verdict that tells the truth."""
    if not isinstance(verdict, (Kept, Broken)):
        return False
    flows = [flow for flow in house.flows() if flow.name == verdict.flow and not flow.strange]
    if len(flows) == 0 or len(_true_route(house, flows[0])) == 0 or not is_amount(verdict.floor):
        return False
    if isinstance(verdict, Kept):
        return _keeps(house, flows[0], verdict.floor, verdict.band)
    return _breaks(house, flows[0], verdict.floor, verdict.turns)


def _true_route(house, flow):
    """The true links of a route."""
    return [link for link in flow.route if not house.link_of(link).strange]


def _keeps(house, flow, floor, band):
    """Whether any value is a box that leaves the floor to the flow."""
    if not isinstance(band, Band) or list(band.lows()) != [link.name for link in house.links()]:
        return False
    # A box has the ends 0 and TOP at the strange links.
    if not is_box(house, band):
        return False
    return compare(share(flow.manner, flow.weight, band.least_low(flow.route)), floor) >= 0


def _breaks(house, flow, floor, turns):
    """Whether any value is a number of turns that brings the flow below the floor."""
    if not is_number_within(turns, 0, MOST_TURNS):
        return False
    settled = settling(house) + 2
    if turns < settled:
        return False
    # From the turn settled - 1 on a swing does the same in every second turn,
    # so the turns that come in pairs behind it need not be played.
    return _is_broken_by(house, flow, floor, settled + (turns - settled) % 2)


def _is_broken_by(house, flow, floor, turns):
    """Whether the flow is below the floor at a true link at the end of the swing from the top."""
    world = swing(house, turns)
    tick = world.now - 1
    own = [world.allotment_at(flow.name, link, tick) for link in _true_route(house, flow)]
    return any([compare(amount, floor) < 0 for amount in own])
