"""Whether two sides have the same face, and if not, a third side that tells them apart."""

from tallgrass.base.errors import Clash
from tallgrass.base.words import LETTERS
from tallgrass.field.meadow import Meadow
from tallgrass.notes.book import Book
from tallgrass.notes.kinds import marks_where
from tallgrass.sides.face import Face, by_name
from tallgrass.sides.side import Side


def check_alike(first, second):
    """Checks that two faces are about the same walkers on this side and beyond it."""
    if first.hours != second.hours or first.walkers != second.walkers or first.outsiders != second.outsiders:
        raise Clash()


def same_face(first, second):
    """Whether no third side can tell the sides of two faces apart."""
    check_alike(first, second)
    return difference(first, second) is None


def difference(first, second):
    """A tuple of arrival hours, residents and an hour for which two faces give different answers, or None.

    Without a resident the question is whether the side is good, and with one it is that of is_good_after.
    """
    for row, other in zip(first.rows, second.rows):
        if row[1] != other[1]:
            return (by_name(first.outsiders, row[0]), (), 0)
    for row in first.rows:
        arrivals = by_name(first.outsiders, row[0])
        for walker in first.residents:
            for hour in range(1, first.hours + 1):
                if is_good_after(first, arrivals, walker, hour) != is_good_after(second, arrivals, walker, hour):
                    return (arrivals, (walker,), hour)
    return None


def is_good_after(one, arrivals, walker, hour):
    """Whether the resident comes at the hour or later and the side is good with all arrivals raised to the hour."""
    raised = {name: max(arrivals[name], hour) for name in arrivals}
    return one.coming(arrivals)[walker] >= hour and one.ok(raised)


def parting_side(first, second):
    """A side that can be joined with both sides and fits together with just one of them, or None."""
    faces = checked_faces(first, second)
    found = difference(faces[0], faces[1])
    if found is None:
        return None
    arrivals, callers, hour = found
    beyond = free_names(first.book.meadow.places + second.book.meadow.places, 1)[0]
    meadow = third_meadow(first, second, beyond, found)
    homes = {walker: beyond if walker in arrivals else first.place for walker in meadow.walkers}
    notes = [calling_note(meadow, callers[0], first.place, hour) for _ in callers]
    return Side(Book(meadow, homes, *notes), first.place, first.residents)


def checked_faces(first, second):
    """The faces of two sides with which the same third sides could be joined."""
    meadow, other = first.book.meadow, second.book.meadow
    if meadow.hours != other.hours or meadow.walkers != other.walkers:
        raise Clash()
    if first.place != second.place or first.outsiders != second.outsiders:
        raise Clash()
    return (Face(first), Face(second))


def free_names(taken, count):
    """So many names that are not taken. Sides that have faces leave enough of the letters."""
    return [letter for letter in LETTERS if letter not in taken][:count]


def third_meadow(first, second, beyond, found):
    """The common place and one beyond it, with paths that the walkers can use just as the difference asks.

    A sign watches that a caller has come and that nobody leaves by the last path before that.
    """
    arrivals, callers, hour = found
    meadow, other = first.book.meadow, second.book.meadow
    road, call, way = free_names(meadow.path_names() + other.path_names(), 3)
    gates = {road: arrivals}
    for walker in callers:
        gates[call] = {walker: meadow.hours}
        gates[way] = {name: hour for name in arrivals}
    sign = free_names(meadow.sign_names() + other.sign_names(), 1)[0]
    paths = [(path, first.place, beyond) for path in gates]
    rows = [(walker, path, gates[path].get(walker, 0)) for path in gates for walker in meadow.walkers]
    signs = [(sign, meadow.walkers, (call, way)) for _ in callers]
    return Meadow(meadow.hours, (first.place, beyond), meadow.walkers, paths, gates=rows, signs=signs)


def calling_note(meadow, walker, place, hour):
    """The note that the only sign was last touched by the walker on the way to the place, at the hour or later."""
    sign = meadow.sign_names()[0]
    return ("shows", sign, marks_where(meadow, sign, walker=walker, place=place, first=hour))
