"""The checks of single paths, gates and signs, each against the rows ahead of it."""

from tallgrass.base.checks import check_known, check_new, check_number, check_some
from tallgrass.base.errors import BadPath, Twice


def check_path_row(row, earlier, places):
    name, first, second = row
    check_new(name, [other[0] for other in earlier])
    check_known(first, places)
    check_known(second, places)
    if first == second:
        raise BadPath(name)


def check_gate_row(row, earlier, hours, walkers, paths):
    """Checks a gate; walkers and paths are the names that are declared."""
    walker, path, hour = row
    check_known(walker, walkers)
    check_known(path, paths)
    check_number(hour, 0, hours)
    if (walker, path) in [(other[0], other[1]) for other in earlier]:
        raise Twice(path)


def check_sign_row(row, earlier, walkers, paths):
    """Checks a sign; walkers and paths are the names that are declared."""
    name, watched_walkers, watched_paths = row
    check_new(name, [other[0] for other in earlier])
    check_some(watched_walkers, walkers)
    check_some(watched_paths, paths)
