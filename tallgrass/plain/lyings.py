"""Lyings paired with sets of paths.

Path by path, from the homes on, a path is in the set if its grass lies towards a certain end. The places that
the paths of the set join with a home so become those that lead home.
"""

from tallgrass.base.checks import check_each
from tallgrass.plain.grass import check_homes, check_lying, joined


def paths_of_lying(meadow, homes, lying):
    """The set that is paired with the lying, as an ascending list."""
    check_homes(meadow, homes)
    check_lying(meadow, lying)
    paths = []
    near = list(homes)
    waiting = list(meadow.path_names())
    while len(waiting) > 0:
        path = next_path(meadow, waiting, near)
        waiting.remove(path)
        if lying[path] == end_if_taken(meadow, path, near):
            paths.append(path)
            near = near + place_joined(meadow, path, near)
    return sorted(paths)


def lying_of_paths(meadow, homes, paths):
    """The lying that is paired with the set of the paths."""
    check_paths(meadow, homes, paths)
    lying = {}
    near = list(homes)
    waiting = list(meadow.path_names())
    while len(waiting) > 0:
        path = next_path(meadow, waiting, near)
        waiting.remove(path)
        end = end_if_taken(meadow, path, near)
        if path in paths:
            lying[path] = end
            near = near + place_joined(meadow, path, near)
        else:
            lying[path] = meadow.across(path, end)
    return lying


def joined_with(meadow, homes, paths):
    """The places that are joined with a home by paths of the set, ascending."""
    check_paths(meadow, homes, paths)
    return joined(meadow, homes, paths)


def check_paths(meadow, homes, paths):
    check_homes(meadow, homes)
    check_each(paths, meadow.path_names())


def next_path(meadow, waiting, near):
    """The first of the paths with an end among the places that are near; if there is none, the first of all."""
    for path in waiting:
        if any([end in near for end in meadow.ends(path)]):
            return path
    return waiting[0]


def place_joined(meadow, path, near):
    """The place that the path joins with those that are near: one end, if just the other end is among them."""
    far = [end for end in meadow.ends(path) if end not in near]
    return far if len(far) == 1 else []


def end_if_taken(meadow, path, near):
    """The end towards which the grass lies just if the path is in the set."""
    low, high = meadow.ends(path)
    if place_joined(meadow, path, near) == [high]:
        return low
    return high
