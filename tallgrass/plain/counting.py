"""Counting lyings, and the lyings that some evening can show."""

from tallgrass.base.choices import one_of_each
from tallgrass.plain.grass import all_ends, check_homes, leading
from tallgrass.plain.grassbook import can_be_left, check_evening, given


def all_lyings(meadow):
    """All lyings, ascending by the ends of the paths."""
    ends = all_ends(meadow)
    return [dict(zip(ends, row)) for row in one_of_each([ends[path] for path in ends])]


def count_leading(meadow, homes):
    """The number of lyings with which every place leads home."""
    return count_by_leading(meadow, homes).get(meadow.places, 0)


def count_by_leading(meadow, homes):
    """For each set of places, as an ascending tuple, the number of lyings with which just these lead home."""
    check_homes(meadow, homes)
    found = {}
    for lying in all_lyings(meadow):
        near = tuple(leading(meadow, lying, homes))
        found[near] = found.get(near, 0) + 1
    return found


def lyings_left(meadow, homes, morning, starts, trodden):
    """All lyings for which plain_fits is True, ascending by the ends of the paths."""
    check_evening(meadow, homes, morning, starts)
    return [lying for lying in all_lyings(meadow)
            if can_be_left(meadow, homes, lying, given(morning), given(starts), trodden)]


def evenings(meadow, homes, *, morning=None, starts=None, trodden=False):
    """Yields all lyings for which plain_fits is True, ascending by the ends of the paths."""
    for lying in lyings_left(meadow, homes, morning, starts, trodden):
        yield lying


def count_evenings(meadow, homes, *, morning=None, starts=None, trodden=False):
    """The number of the evenings."""
    return len(lyings_left(meadow, homes, morning, starts, trodden))
