"""What the tests share: values of any kind, exact fractions, and a check of raised errors."""

from fractions import Fraction

from bandheld.amounts import TOP, ZERO
from bandheld.flows import Flow
from bandheld.houses import House
from bandheld.links import Link

BUFFER = (20, 1)
LINK = Link("a", (4, 1))
FLOW = Flow("f", ["a"], [BUFFER])
HOUSE = House(3, LINK, FLOW)

# Values that are neither numbers nor names nor amounts nor manners nor parts.
ODD_VALUES = [
    None,
    True,
    False,
    "",
    "A",
    "a b",
    "toolong",
    "4",
    "5/2",
    [],
    [1, 2],
    [[1, 2], [3, 4]],
    (True, 1),
    (1, True),
    (2, 4),
    (0, 2),
    (-1, 2),
    (1, 0),
    (1, -2),
    (1,),
    (1, 2, 3),
    ("1", 2),
    (None, None),
    ((1, 2), (3, 4), (5, 6)),
    ((2, 1), (1, 1)),
    ((True, 1), (2, 1)),
    ([1, 1], [2, 1]),
    [((1, 1), (2, 1))],
    (((((1,),),),),),
    HOUSE,
    (HOUSE, [FLOW]),
]

# Values that are no names of flows that a house has.
ODD_NAMES = ODD_VALUES + ["x", ("a",), ["f"], 0, ("f", "g")]


def flow(name, *route, **more):
    """A flow with buffers of one size."""
    return Flow(name, list(route), [BUFFER] * len(route), **more)


def example(age=3, **of_g):
    """The house of the document's examples."""
    return House(
        age, Link("a", (4, 1)), Link("b", (6, 1)), flow("f", "a", "b"), flow("g", "a", **of_g), flow("h", "b"))


def fraction(value):
    """An amount as a fraction of Python's library."""
    top, bottom = value
    return Fraction(top, bottom)


def pair(value):
    """A fraction as an amount."""
    return (Fraction(value).numerator, Fraction(value).denominator)


def plain_share(manner, weight, height):
    """The share of a manner, with fractions."""
    if manner == ():
        return Fraction(0)
    return max(fraction(manner[0]), min(fraction(manner[1]), weight * height))


def plain_total(wishes, height):
    """The total of wishes, with fractions."""
    return sum(
        [plain_share(manner, weight, min(height, fraction(bound))) for manner, weight, bound in wishes],
        Fraction(0),
    )


def check_raises(case, error, told, call, *args, **named):
    """Fails unless the call raises just this error with these attributes."""
    with case.assertRaises(error) as caught:
        call(*args, **named)
    case.assertIs(caught.exception.__class__, error)
    for name, value in told.items():
        found = getattr(caught.exception, name)
        case.assertEqual(found, value)
        case.assertIs(found.__class__, value.__class__)


def random_amount(rng, most=12):
    """An amount of at most most, often one of few."""
    if rng.random() < 0.3:
        return pair(rng.choice([0, 1, 2, most]))
    bottom = rng.randint(1, 12)
    return pair(Fraction(rng.randint(0, most * bottom), bottom))


def random_manner(rng, most=12):
    """A manner, now and then gone or without a height to rise over."""
    chance = rng.random()
    if chance < 0.15:
        return ()
    ends = [fraction(random_amount(rng, most)), fraction(random_amount(rng, most))]
    if chance < 0.3:
        return (pair(ends[0]), pair(ends[0]))
    return (pair(min(ends)), pair(max(ends)))


def random_house(rng, strange=0.0, shaky=0.0):
    """A house whose leasts fit."""
    names = rng.sample(["a", "b", "c", "d", "e"], rng.randint(1, 5))
    routes = [rng.sample(names, rng.randint(1, len(names))) for _ in range(rng.randint(1, 5))]
    for name in names:
        if not any([name in route for route in routes]):
            routes.append([name])
    parts = []
    for at, route in enumerate(routes):
        least = pair(Fraction(rng.randint(0, 3), rng.choice([1, 4, 6, 12])))
        cap = pair(fraction(least) + rng.choice([0, 1, Fraction(5, 2), 9, 900]))
        manner = rng.choice([
            None,
            (),
            (ZERO, cap),
            (pair(fraction(least) / 2), pair(fraction(least) / 2 + (fraction(cap) - fraction(least)) / 3)),
            (least, least),
        ])
        kind = rng.choice(["level", "eager", "window", "probe"])
        size = {"window": (7, 2), "probe": 4}.get(kind)
        parts.append(Flow(
            "f" + "abcdefghij"[at], route, [(20, 1)] * len(route), kind=kind, size=size,
            weight=rng.randint(1, 4), least=least, cap=cap, door=rng.choice([None, TOP]), manner=manner,
            way=rng.randint(1, 20), strange=rng.random() < strange,
        ))
    for name in names:
        promised = sum([fraction(part.least) for part in parts if isinstance(part, Flow) and name in part.route])
        low = max(promised, Fraction(1, 12)) + rng.choice([0, 1, Fraction(7, 12)])
        capacity = low + (rng.choice([1, Fraction(1, 4)]) if rng.random() < shaky else 0)
        parts.append(Link(
            name, pair(capacity), low=pair(low), way=rng.randint(1, 20),
            discipline=rng.choice(["own", "spare", "ranks"]), strange=rng.random() < strange,
        ))
    rng.shuffle(parts)
    return House(rng.randint(1, 12), *parts)
