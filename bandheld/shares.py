"""Manners, the shares that they ask for, and totals of wishes."""

from bandheld.amounts import ZERO, compare, is_amount, largest, plus, smallest, times


def is_manner(value):
    """Whether any value is a manner."""
    if not isinstance(value, tuple):
        return False
    if len(value) == 0:
        return True
    if len(value) != 2 or not is_amount(value[0]) or not is_amount(value[1]):
        return False
    return compare(value[0], value[1]) <= 0


def share(manner, weight, level):
    """The share of a manner with this weight at a level."""
    if manner == ():
        return ZERO
    least, most = manner
    return largest(least, smallest(most, times((weight, 1), level)))


def cut_manner(manner, least, cap):
    """The manner cut for a flow with this promised least and this cap."""
    if manner == ():
        return ()
    new_most = smallest(manner[1], cap)
    new_least = smallest(manner[0], least, new_most)
    return (new_least, new_most)


def total(wishes, level):
    """The sum of the shares of wishes (manner, weight, bound) at a level."""
    found = [share(manner, weight, smallest(level, bound)) for manner, weight, bound in wishes]
    return plus(*found)
