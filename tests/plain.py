"""The reckoning of levels, bands, ladders and shakes once more, straight from the document, with fractions."""

from fractions import Fraction

from bandheld.amounts import TOP, ZERO
from tests.helpers import fraction, pair, plain_total


def plain_level(capacity, wishes):
    """The level of a link, found by walking up over all places where the total may bend."""
    goal = fraction(capacity)
    heights = {Fraction(0), Fraction(1000)}
    for manner, weight, bound in wishes:
        heights |= {fraction(wish) / weight for wish in manner} | {fraction(bound)}
    left = None
    for height in sorted([height for height in heights if height <= 1000]):
        reached = plain_total(wishes, height)
        if reached >= goal:
            if left is None:
                return pair(height)
            return pair(left + (goal - below) * (height - left) / (reached - below))
        left, below = height, reached
    return TOP


def plain_value(house, link, side, amounts):
    """The low or the high value of a link."""
    part = house.link_of(link)
    if part.strange:
        return {"low": ZERO, "high": TOP}[side]
    wishes = []
    for flow in house.flows():
        if link not in flow.route:
            continue
        manner = flow.manner
        if flow.strange:
            manner = {"low": (flow.least, flow.cap), "high": ()}[side]
        bounds = [fraction(amounts[other]) for other in flow.route if other != link]
        wishes.append((manner, flow.weight, pair(min(bounds + [Fraction(1000)]))))
    return plain_level({"low": part.low, "high": part.capacity}[side], wishes)


def plain_next(house, ends):
    """The pair (lows, highs) behind another one."""
    lows, highs = ends
    return (
        {link: plain_value(house, link, "low", highs) for link in lows},
        {link: plain_value(house, link, "high", lows) for link in lows},
    )


def plain_bands(house):
    """The pairs (lows, highs) of the bands of a house."""
    links = [link.name for link in house.links()]
    tops = {link: TOP for link in links}
    loud = house.with_strange(*[flow.name for flow in house.flows()])
    found = [({link: plain_value(loud, link, "low", tops) for link in links}, tops)]
    while len(found) < 2 or found[-1] != found[-2]:
        found.append(plain_next(house, found[-1]))
    return found[:-1]


def plain_ladder(house):
    """The steps of the ladder of a house."""
    done = {}
    for link in house.links():
        if link.strange:
            done.update({(link.name, "low"): ZERO, (link.name, "high"): TOP})
    steps = []
    while len(done) < 2 * len(house.links()):
        choices = []
        for link in house.links():
            for side, other in [("low", "high"), ("high", "low")]:
                if (link.name, side) not in done:
                    amounts = {more.name: done.get((more.name, other), TOP) for more in house.links()}
                    value = plain_value(house, link.name, side, amounts)
                    choices.append((fraction(value), link.name, other, (link.name, side, value)))
        step = min(choices)[-1]
        steps.append(step)
        done[step[:2]] = step[2]
    return steps


def plain_shake(house, flow, manner, ticks):
    """The pairs (lows, highs) of the rows of a shake."""
    new = house.with_manner(flow, manner)
    rows = {tick: plain_bands(house)[-1] for tick in range(-house.age, 1)}
    for tick in range(1, ticks + 1):
        before = [rows[further] for further in range(tick - house.age, tick)]
        links = list(before[0][0])
        low = {link: min([lows[link] for lows, _ in before], key=fraction) for link in links}
        high = {link: max([highs[link] for _, highs in before], key=fraction) for link in links}
        heard = [house, new] if tick < house.age else [new]
        rows[tick] = ({}, {})
        for link in links:
            lows = [plain_value(one, link, "low", high) for one in heard]
            highs = [plain_value(one, link, "high", low) for one in heard]
            rows[tick][0][link] = min(lows, key=fraction)
            rows[tick][1][link] = max(highs, key=fraction)
    return [rows[tick] for tick in range(1, ticks + 1)]
