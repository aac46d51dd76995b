"""What the files about plain grass share: checks, and getting from place to place."""

from tallgrass.base.checks import check_all_entries
from tallgrass.base.errors import BadNumber


def all_ends(meadow):
    """For each path its two ends."""
    return {path: meadow.ends(path) for path in meadow.path_names()}


def check_lying(meadow, lying):
    check_all_entries(lying, all_ends(meadow))


def check_homes(meadow, homes):
    if len(homes) == 0:
        raise BadNumber(0)
    check_places(meadow, homes)


def check_places(meadow, places):
    for place in places:
        meadow.check_place(place)


def trodden_places(meadow):
    """The places at which a path ends, ascending."""
    return [place for place in meadow.places if len(meadow.paths_at(place)) > 0]


def blades(meadow, lying):
    """For each path its name, the end away from which its grass lies, and the end towards which it lies."""
    return [(path, meadow.across(path, lying[path]), lying[path]) for path in meadow.path_names()]


def spread(steps, places):
    """The places, and those to which one gets from them by steps from place to place, ascending."""
    found = {place: True for place in places}
    waiting = list(found)
    while len(waiting) > 0:
        place = waiting.pop()
        for start, end in steps:
            if start == place and end not in found:
                found[end] = True
                waiting.append(end)
    return sorted(found)


def leading(meadow, lying, homes):
    """The places that lead home, ascending."""
    return spread([(end, start) for _, start, end in blades(meadow, lying)], homes)


def led_from(meadow, lying, place):
    """The places to which a place leads, ascending; it is one of them."""
    return spread([(start, end) for _, start, end in blades(meadow, lying)], [place])


def joined(meadow, homes, paths):
    """The places that are joined with a home by some of the paths, ascending."""
    ends = [meadow.ends(path) for path in paths]
    return spread(ends + [(high, low) for low, high in ends], homes)


def is_led(meadow, lying, homes):
    """Whether each place at which a path ends leads home."""
    near = leading(meadow, lying, homes)
    return all([place in near for place in trodden_places(meadow)])
