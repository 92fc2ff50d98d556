"""Sharings of a plain house: whether they fit, and whether they are fair."""

from bandheld.amounts import ZERO, compare, is_amount, over, plus
from bandheld.errors import BadSharing, NotPlain
from bandheld.tables import has_just


def check_sharing(house, sharing):
    """Refuses what is no sharing of a plain house."""
    if not house.is_plain():
        raise NotPlain()
    names = [flow.name for flow in house.flows()]
    if not has_just(sharing, names):
        raise BadSharing(None)
    for name in names:
        if not is_amount(sharing[name]):
            raise BadSharing(name)


def fits(house, sharing):
    """Whether each flow gets what it may have, and no link carries more than it can."""
    check_sharing(house, sharing)
    wished = [_suits(flow, sharing[flow.name]) for flow in house.flows()]
    carried = [
        compare(_load(house, link.name, sharing), link.capacity) <= 0
        for link in house.links()
    ]
    return all(wished) and all(carried)


def is_fair(house, sharing):
    """Whether a sharing fits, and no flow could have more but for flows that have no more than it."""
    if not fits(house, sharing):
        return False
    return all([_is_content(house, flow, sharing) for flow in house.flows()])


def _suits(flow, amount):
    """Whether an amount is one that a flow may have."""
    if flow.is_gone():
        return amount == ZERO
    least, most = flow.manner
    return compare(least, amount) <= 0 and compare(amount, most) <= 0


def _load(house, link, sharing):
    """What a link carries."""
    amounts = [sharing[name] for name in house.on(link)]
    return plus(*amounts)


def _is_content(house, flow, sharing):
    """Whether a flow has all that it wishes, or a link on its route is a reason why not."""
    if flow.is_gone() or sharing[flow.name] == flow.manner[1]:
        return True
    return any([_is_reason(house, link, flow, sharing) for link in flow.route])


def _is_reason(house, link, flow, sharing):
    """Whether a link is full, and each flow there that could have less has no more than this flow."""
    if _load(house, link, sharing) != house.link_of(link).capacity:
        return False
    height = _height(flow, sharing)
    others = [house.flow_of(name) for name in house.on(link)]
    return all([
        compare(_height(other, sharing), height) <= 0
        for other in others
        if _has_more_than_least(other, sharing)
    ])


def _has_more_than_least(flow, sharing):
    """Whether a flow that is not gone has more than its least wish."""
    return not flow.is_gone() and compare(sharing[flow.name], flow.manner[0]) > 0


def _height(flow, sharing):
    """The amount of a flow by its weight."""
    return over(sharing[flow.name], (flow.weight, 1))
