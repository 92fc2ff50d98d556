"""Levels, allotments and spare amounts."""

from bandheld.amounts import TOP, ZERO, compare, largest, minus, over, plus, smallest, times
from bandheld.shares import share, total


def level_of(capacity, wishes):
    """The least amount up to TOP at which the total of the wishes is the capacity or more."""
    return _least_reaching(capacity, wishes, TOP)


def allotments(level, wishes):
    """The allotment of each wish at a level."""
    return [share(manner, weight, smallest(level, bound)) for manner, weight, bound in wishes]


def spare_shares(rest, wants):
    """The extra of each want (weight, amount) when a rest is handed out."""
    heights = [height for weight, height in wants]
    # At this height each want is met, for all weights are at least 1.
    top = largest(ZERO, *heights)
    wishes = [((ZERO, height), weight, top) for weight, height in wants]
    return allotments(_least_reaching(rest, wishes, top), wishes)


def _least_reaching(goal, wishes, top):
    """The least amount up to top at which the total is the goal or more, top if there is none."""
    breaks = _breaks(wishes, top)
    at = _first_reaching(goal, wishes, breaks)
    if at == len(breaks):
        return top
    if at == 0:
        return breaks[0]
    return _on_line(goal, wishes, breaks[at - 1], breaks[at])


def _breaks(wishes, top):
    """The amounts from ZERO to top, ascending, between which the total is a straight line."""
    found = [ZERO, top]
    for manner, weight, bound in wishes:
        if manner != ():
            found.append(over(manner[0], (weight, 1)))
            found.append(over(manner[1], (weight, 1)))
            found.append(bound)
    return _ascending([height for height in found if compare(height, top) <= 0])


def _first_reaching(goal, wishes, breaks):
    """The index of the first break at which the total is the goal or more, or how many there are."""
    low = 0
    high = len(breaks)
    while low < high:
        middle = (low + high) // 2
        if compare(total(wishes, breaks[middle]), goal) < 0:
            low = middle + 1
        else:
            high = middle
    return low


def _on_line(goal, wishes, left, right):
    """Where the total is the goal: it is a line, below the goal at left and not below it at right."""
    start = total(wishes, left)
    rise = minus(total(wishes, right), start)
    part = over(minus(goal, start), rise)
    return plus(left, times(part, minus(right, left)))


def _ascending(heights):
    """A list of amounts in the order of their values."""
    # The order of Python for tuples is not that of the fractions.
    if len(heights) < 2:
        return list(heights)
    middle = len(heights) // 2
    return _merged(_ascending(heights[:middle]), _ascending(heights[middle:]))


def _merged(first, second):
    """Two ascending lists as one."""
    found = []
    at = 0
    for height in second:
        while at < len(first) and compare(first[at], height) <= 0:
            found.append(first[at])
            at += 1
        found.append(height)
    return found + first[at:]
