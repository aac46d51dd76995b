"""Which path was trodden later than another, if all were trodden and every place leads home."""

from tallgrass.base.errors import BadPath, NoDay
from tallgrass.plain.grass import blades, check_homes, check_lying, is_led


def surely_later(meadow, lying, homes, path, other):
    """Whether the path was surely trodden after the last time that the other one was."""
    return way_past(meadow, lying, homes, path, other) is None


def way_past(meadow, lying, homes, path, other):
    """The paths of a way home that does without the path, from where the grass of the other one lies to; or None."""
    check_lying(meadow, lying)
    check_homes(meadow, homes)
    meadow.check_path(path)
    meadow.check_path(other)
    if path == other:
        raise BadPath(path)
    check_led(meadow, lying, homes)
    return way_without(meadow, lying, homes, path, lying[other])


def later_pairs(meadow, lying, homes):
    """All pairs of a path and another one for which surely_later is True, ascending."""
    check_lying(meadow, lying)
    check_homes(meadow, homes)
    check_led(meadow, lying, homes)
    names = meadow.path_names()
    return [(path, other) for path in names for other in names
            if path != other and way_without(meadow, lying, homes, path, lying[other]) is None]


def last_paths(meadow, lying, homes):
    """The paths that can be the last one of all to be trodden, ascending."""
    check_lying(meadow, lying)
    check_homes(meadow, homes)
    check_led(meadow, lying, homes)
    return [path for path in meadow.path_names() if lying[path] in homes]


def check_led(meadow, lying, homes):
    if not is_led(meadow, lying, homes):
        raise NoDay()


def way_without(meadow, lying, homes, path, place):
    """The paths of a shortest way home from the place, as the grass lies, without the path; or None."""
    steps = [blade for blade in blades(meadow, lying) if blade[0] != path]
    found = {place: []}
    waiting = [place]
    while len(waiting) > 0:
        here = waiting.pop(0)
        if here in homes:
            return found[here]
        for name, start, end in steps:
            if start == here and end not in found:
                found[end] = found[here] + [name]
                waiting.append(end)
    return None
