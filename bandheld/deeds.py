"""Deeds: what may be done with a world, as tuples."""

LENGTHS = {
    "tick": 1,
    "carry": 2,
    "copy": 2,
    "lose": 2,
    "carry_old": 2,
    "say": 3,
    "hush": 2,
    "send": 4,
    "capacity": 3,
    "change": 3,
    "stir": 7,
}


def is_deed(value):
    """Whether any value is a tuple with the first word and the length of a deed."""
    if not isinstance(value, tuple) or len(value) == 0 or not isinstance(value[0], str):
        return False
    return LENGTHS.get(value[0]) == len(value)
