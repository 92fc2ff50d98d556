"""Disciplines: what a true link sends for each of its flows."""

from bandheld.amounts import minus, plus, smallest
from bandheld.levels import spare_shares


def own_sends(allotments, limits):
    """What goes if each flow has its allotment alone."""
    return [smallest(own, limit) for own, limit in zip(allotments, limits)]


def spare_sends(capacity, weights, allotments, limits):
    """What goes if the flows share besides what the allotments leave of the capacity."""
    sends = own_sends(allotments, limits)
    wants = [(weight, minus(limit, sent)) for weight, limit, sent in zip(weights, limits, sends)]
    extras = spare_shares(minus(capacity, plus(*sends)), wants)
    return [plus(sent, extra) for sent, extra in zip(sends, extras)]


def rank_sends(capacity, limits):
    """What goes if each flow takes what it can of what the flows ahead of it leave."""
    sends = []
    rest = capacity
    for limit in limits:
        sent = smallest(limit, rest)
        sends.append(sent)
        rest = minus(rest, sent)
    return sends
