"""Shakes: where the levels lie, tick by tick, behind a change of a manner."""

from bandheld.amounts import largest, smallest
from bandheld.bands import Band, high_value, last_band, low_value
from bandheld.basics import is_number_within
from bandheld.errors import BadCount
from bandheld.houses import true_flow_of

MOST_TICKS = 400


def shake(house, flow, manner, ticks):
    """The rows of the ticks from 1 on if a true flow gets another manner ahead of tick 0."""
    true_flow_of(house, flow)
    changed = house.with_manner(flow, manner)
    if not is_number_within(ticks, 0, MOST_TICKS):
        raise BadCount(ticks)
    age = house.age
    # The rows of the ticks from 1 - age to 0 stand ahead of those asked for.
    rows = [last_band(house)] * age
    for tick in range(1, ticks + 1):
        if tick < age:
            rows.append(_row([house, changed], rows[-age:]))
        else:
            rows.append(_row([changed], rows[-age:]))
    return rows[age:]


def _row(houses, rows):
    """The row that follows on some rows, where the manners of these houses may be heard."""
    # The houses differ in the manner of one flow alone, so the links that are
    # not on its route have the same values in each of them.
    lows = _least_lows(rows)
    highs = _greatest_highs(rows)
    return Band(
        houses[0],
        {link: _lowest(houses, link, highs) for link in lows},
        {link: _highest(houses, link, lows) for link in lows},
    )


def _least_lows(rows):
    """The least low end of each link over some rows."""
    found = rows[0].lows()
    for row in rows:
        for link, low in row.lows().items():
            found[link] = smallest(found[link], low)
    return found


def _greatest_highs(rows):
    """The greatest high end of each link over some rows."""
    found = rows[0].highs()
    for row in rows:
        for link, high in row.highs().items():
            found[link] = largest(found[link], high)
    return found


def _lowest(houses, link, highs):
    """The least of the low values of a link."""
    values = [low_value(house, link, highs) for house in houses]
    return smallest(*values)


def _highest(houses, link, lows):
    """The greatest of the high values of a link."""
    values = [high_value(house, link, lows) for house in houses]
    return largest(*values)
