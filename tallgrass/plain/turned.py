"""Grass turned by hand: the fewest paths whose grass somebody must have turned."""

from tallgrass.base.choices import choices
from tallgrass.base.errors import NoDay
from tallgrass.plain.grass import blades, check_homes, check_lying, is_led, joined, spread, trodden_places
from tallgrass.plain.leading import is_shut


def fewest_turned(meadow, lying, homes):
    """The fewest paths to turn back, and as many untrodden sets that show that fewer are not enough."""
    check_lying(meadow, lying)
    check_homes(meadow, homes)
    near = joined(meadow, homes, meadow.path_names())
    if not all([place in near for place in trodden_places(meadow)]):
        raise NoDay()
    sets = sets_apart(meadow, lying, homes)
    enough = [paths for paths in choices(meadow.path_names(), len(sets)) if are_enough(meadow, lying, homes, paths)]
    return (list(enough[0]), sets)


def judge_turned(meadow, lying, homes, paths, sets):
    """Whether turning back the paths is enough, and the sets show that fewer are not."""
    check_lying(meadow, lying)
    check_homes(meadow, homes)
    if len(set(paths)) != len(paths) or not all([path in lying for path in paths]):
        return False
    return (len(sets) == len(paths) and are_enough(meadow, lying, homes, paths)
            and are_apart(meadow, lying, homes, sets))


def are_enough(meadow, lying, homes, paths):
    """Whether each place at which a path ends leads home once the grass of the paths is turned."""
    turned = {path: meadow.across(path, lying[path]) if path in paths else lying[path] for path in lying}
    return is_led(meadow, turned, homes)


def are_apart(meadow, lying, homes, sets):
    """Whether these are untrodden sets, each with a border path, no two of which share one."""
    borders = []
    for places in sets:
        if not all([place in meadow.places for place in places]) or not is_shut(meadow, lying, homes, places):
            return False
        border = border_paths(meadow, places)
        if len(border) == 0 or any([path in borders for path in border]):
            return False
        borders.extend(border)
    return True


def border_paths(meadow, places):
    """The paths that have just one end in the set of the places."""
    return [path for path, low, high in meadow.paths if (low in places) != (high in places)]


def sets_apart(meadow, lying, homes):
    """As many untrodden sets as paths must be turned, each with a border path, no two of which share one.

    Once a set is taken, its border paths count as lying to both ends, so that no later set shares them. A
    set that leads to nothing else is taken as long as there is one without a home: so few paths are enough,
    as turning one border path of each set, chosen from the last set back, makes every place lead home.
    """
    sets = []
    steps = [(start, end) for _, start, end in blades(meadow, lying)]
    found = first_sink(meadow, steps, homes)
    while found is not None:
        sets.append(found)
        for path in border_paths(meadow, found):
            steps.append((lying[path], meadow.across(path, lying[path])))
        found = first_sink(meadow, steps, homes)
    return sets


def first_sink(meadow, steps, homes):
    """A set without a home of places that lead by the steps to one another and to nothing else, or None."""
    for place in trodden_places(meadow):
        led = spread(steps, [place])
        if not any([home in led for home in homes]) and all([place in spread(steps, [end]) for end in led]):
            return tuple(led)
    return None
