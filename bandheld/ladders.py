"""Ladders: the ends of the last band, found in one pass from the least value up."""

from bandheld.amounts import TOP, ZERO, compare, is_amount, smallest
from bandheld.bands import Band, high_value, low_value
from bandheld.errors import BadBand

SIDES = ("low", "high")


def ladder(house):
    """The list of the steps (link, side, value)."""
    done = _strange_ends(house)
    waiting = _true_ends(house)
    steps = []
    while waiting:
        values = [_value(house, link, side, done) for link, side in waiting]
        least = smallest(*values)
        # The ends that wait are ascending, so the first of equal ones is due.
        link, side = waiting[values.index(least)]
        steps.append((link, side, least))
        done[(link, side)] = least
        waiting = [end for end in waiting if end != (link, side)]
    return steps


def count(house):
    """How many different values the ladder of a house has."""
    return len({step[2] for step in ladder(house)})


def band_of_steps(house, steps):
    """The band whose ends the steps give, in whichever order they stand."""
    if not _are_steps(house, steps):
        raise BadBand(None)
    ends = _strange_ends(house)
    for link, side, value in steps:
        ends[(link, side)] = value
    links = [link.name for link in house.links()]
    lows = {link: ends[(link, "low")] for link in links}
    highs = {link: ends[(link, "high")] for link in links}
    return Band(house, lows, highs)


def is_ladder(house, steps):
    """Whether any value is a ladder of a house, whichever of equal values comes first."""
    if not _are_steps(house, steps):
        return False
    done = _strange_ends(house)
    highest = ZERO
    for link, side, value in steps:
        if compare(value, highest) < 0 or value != _value(house, link, side, done):
            return False
        done[(link, side)] = value
        highest = value
    return True


def _strange_ends(house):
    """The dict from the ends of the strange links to their values."""
    ends = {}
    for link in house.links():
        if link.strange:
            ends[(link.name, "low")] = ZERO
            ends[(link.name, "high")] = TOP
    return ends


def _true_ends(house):
    """The ends of the true links: the links ascending, of each one the low end first."""
    return [(link.name, side) for link in house.links() if not link.strange for side in SIDES]


def _value(house, link, side, done):
    """The low or high value of a link, where ends of the other side that are not done are TOP."""
    links = [other.name for other in house.links()]
    if side == "low":
        return low_value(house, link, {other: done.get((other, "high"), TOP) for other in links})
    return high_value(house, link, {other: done.get((other, "low"), TOP) for other in links})


def _are_steps(house, steps):
    """Whether any value is a list of one step for each end of each true link."""
    if not isinstance(steps, (list, tuple)):
        return False
    ends = _true_ends(house)
    if not all([_is_step(step, ends) for step in steps]):
        return False
    return sorted([step[:2] for step in steps]) == sorted(ends)


def _is_step(value, ends):
    """Whether any value is a step with one of these ends and an amount."""
    if not isinstance(value, tuple) or len(value) != 3:
        return False
    return value[:2] in ends and is_amount(value[2])
