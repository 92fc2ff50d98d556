"""Doing deeds again, in a new world or within a trial."""

from bandheld.deeds import is_deed
from bandheld.errors import BadDeed
from bandheld.worlds import World


def replay(house, deeds):
    """A new world in which these deeds were done."""
    _check_deeds(deeds)
    world = World(house)
    _do_all(world, deeds)
    return world


class Mark:
    """The stage of a world ahead of a trial, and what the trial kept before."""

    def __init__(self, stage, former):
        self.stage = stage
        self.former = former


class Trial:
    """At the end of its block the world is again as it was at the beginning."""

    def __init__(self, world):
        self.world = world
        self.kept = None

    def __enter__(self):
        world = self.world
        # One trial may be entered again within its own block.
        self.kept = Mark(world.stage, self.kept)
        world.stage = world.stage.copy()
        return world

    def __exit__(self, kind, value, trace):
        world = self.world
        world.stage = self.kept.stage
        self.kept = self.kept.former


def rehearse(world, deeds):
    """The levels of the ticks of these deeds, done within a trial."""
    _check_deeds(deeds)
    with Trial(world):
        found = _levels_of(world, deeds)
    return found


def rehearse_twice(world, deeds, inner):
    """The levels of the ticks of inner behind deeds, within a second trial and behind it."""
    _check_deeds(deeds)
    _check_deeds(inner)
    with Trial(world):
        _do_all(world, deeds)
        with Trial(world):
            first = _levels_of(world, inner)
        second = _levels_of(world, inner)
    return (first, second)


def _check_deeds(deeds):
    """Refuses any value that is no list of deeds by their first words and lengths."""
    if not isinstance(deeds, (list, tuple)):
        raise BadDeed(-1)
    for at, deed in enumerate(deeds):
        if not is_deed(deed):
            raise BadDeed(at)


def _do_all(world, deeds):
    for deed in deeds:
        world.do(deed)


def _levels_of(world, deeds):
    """Does deeds; returns the dicts of the levels of the ticks that were played."""
    begun = world.now
    _do_all(world, deeds)
    links = [link.name for link in world.house.links() if not link.strange]
    return [{link: world.level_at(link, tick) for link in links} for tick in range(begun, world.now)]
