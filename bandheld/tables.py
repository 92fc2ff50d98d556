"""Dicts from names: which names they have, and looking them up."""

from bandheld.errors import UnknownName


def has_just(value, names):
    """Whether any value is a dict with just these different names as keys."""
    if not isinstance(value, dict) or len(value) != len(names):
        return False
    return all([name in value for name in names])


def entry_of(table, name):
    """The entry of a table for any value as a name."""
    if not isinstance(name, str) or name not in table:
        raise UnknownName(name)
    return table[name]
