"""Books about plain grass, and whether some day fits them."""

from tallgrass.base.checks import check_all_entries, check_entries
from tallgrass.field.meadow import OLD, Meadow
from tallgrass.field.placing import all_places
from tallgrass.notes.book import Book
from tallgrass.plain.grass import all_ends, check_lying, joined, leading


def grass_book(meadow, homes, lying, *, morning=None, starts=None, trodden=False):
    """The book in which the sign of each path shows to which end its grass lies."""
    check_lying(meadow, lying)
    check_evening(meadow, homes, morning, starts)
    surely = surely_trodden(meadow, lying, given(morning), trodden)
    first = given(starts)
    notes = [("start", walker, (first[walker],)) for walker in first]
    for path in meadow.path_names():
        marks = [(1, walker, path, lying[path]) for walker in homes]
        notes.append(("shows", path, marks if path in surely else [OLD] + marks))
    return Book(grassy_meadow(meadow, homes), homes, *notes)


def plain_fits(meadow, homes, lying, *, morning=None, starts=None, trodden=False):
    """Whether some day fits the grass book."""
    check_lying(meadow, lying)
    check_evening(meadow, homes, morning, starts)
    return can_be_left(meadow, homes, lying, given(morning), given(starts), trodden)


def grassy_meadow(meadow, homes):
    """The meadow of a grass book for the walkers who have these homes."""
    return Meadow.grassy(1, meadow.places, sorted(homes), meadow.paths)


def check_evening(meadow, homes, morning, starts):
    """Checks what is told about a day on plain grass, but for the lying."""
    places = all_places(grassy_meadow(meadow, homes))
    check_all_entries(homes, places)
    check_entries(given(morning), all_ends(meadow))
    check_entries(given(starts), places)


def given(table):
    return {} if table is None else table


def surely_trodden(meadow, lying, morning, trodden):
    """The paths that cannot be untouched: all that were trodden, or those whose grass was turned since morning."""
    if trodden:
        return meadow.path_names()
    return [path for path in morning if morning[path] != lying[path]]


def can_be_left(meadow, homes, lying, morning, starts, trodden):
    """Whether walkers with these homes can have left the lying. Everything is checked already."""
    near = leading(meadow, lying, list(homes.values()))
    inner = [path for path, low, high in meadow.paths if low in near and high in near]
    if not all([path in inner for path in surely_trodden(meadow, lying, morning, trodden)]):
        return False
    return all([starts[walker] in joined(meadow, [homes[walker]], inner) for walker in starts])
