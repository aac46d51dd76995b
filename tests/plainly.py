"""Plain grass looked at step by step: small meadows, all their lyings, and all that walkers can leave there."""

import functools
import itertools

from tallgrass.field.meadow import Meadow

ROWS = {
    "point": ("a", []),
    "apart": ("abc", [("p", "a", "b")]),
    "line": ("abc", [("p", "a", "b"), ("q", "b", "c")]),
    "twice": ("ab", [("p", "a", "b"), ("q", "a", "b")]),
    "ring": ("abc", [("p", "a", "b"), ("q", "b", "c"), ("s", "a", "c")]),
    "pairs": ("abcd", [("p", "a", "c"), ("q", "b", "d"), ("s", "b", "d")]),
    "kite": ("abcd", [("p", "b", "a"), ("q", "b", "c"), ("s", "c", "d"), ("t", "d", "b")]),
    "full": ("abcd", [("p", "a", "b"), ("q", "b", "c"), ("s", "c", "d"), ("t", "a", "d"), ("u", "a", "c")]),
}


def plain(name):
    """One of the small meadows; its hours, walkers, gates and signs say nothing."""
    places, paths = ROWS[name]
    return Meadow(2, list(places), ["w"], paths, gates=[("w", row[0], 0) for row in paths[:1]])


def plain_meadows():
    return [plain(name) for name in ROWS]


def large():
    """A meadow with as many places and paths as there can be."""
    ring = [(f"p{at}", "abcdefg"[at], "abcdefg"[(at + 1) % 7]) for at in range(7)]
    return Meadow(1, list("abcdefg"), ["w"], ring + [("q", "a", "d"), ("s", "c", "f")])


def lyings(meadow):
    """All lyings, by the tuple of their ends."""
    names = [path for path, *_ in meadow.paths]
    return [dict(zip(names, ends)) for ends in itertools.product(*[ends for _, *ends in meadow.paths])]


def subsets(names):
    """All sets of names, as ascending tuples, ascending."""
    names = sorted(names)
    return sorted(row for count in range(len(names) + 1) for row in itertools.combinations(names, count))


def leads(meadow, lying, place):
    """The places to which a place leads, itself included."""
    found = {place}
    for _ in meadow.places:
        found |= {lying[path] for path, *ends in meadow.paths if found & {*ends} - {lying[path]}}
    return found


def untrodden(meadow, lying, homes, places):
    """Whether a set of places is untrodden, by the words."""
    borders = [path for path, *ends in meadow.paths if len({*ends} & {*places}) == 1]
    return bool(places) and not {*places} & {*homes} and all(lying[path] in places for path in borders)


@functools.cache
def left_by(name, starts):
    """All (places, ends, pair) to which walkers can come who start at the places.

    The ends are those to which the paths were last trodden, or None; the last item is the ascending list of
    the paths in the order in which they were last trodden.
    """
    meadow = plain(name)
    names = [path for path, *_ in meadow.paths]
    first = (starts, (None,) * len(names), ())
    found, waiting = {first}, [first]
    while waiting:
        places, ends, order = waiting.pop()
        for walker, place in enumerate(places):
            for path in meadow.paths_at(place):
                there, at = meadow.across(path, place), names.index(path)
                state = (places[:walker] + (there,) + places[walker + 1:], ends[:at] + (there,) + ends[at + 1:],
                         tuple(one for one in order if one != path) + (path,))
                if state not in found:
                    found.add(state)
                    waiting.append(state)
    return found


@functools.cache
def left(name, homes):
    """All (starts, ends, order) with which walkers can come to the homes."""
    meadow = plain(name)
    return {(starts, ends, order) for starts in itertools.product(meadow.places, repeat=len(homes))
            for places, ends, order in left_by(name, starts) if places == homes}


def orders(name, homes, lying):
    """All orders of last goings, if walkers at the homes left the lying and all paths were trodden."""
    ends = tuple(lying.values())
    return {order for _, found, order in left(name, tuple(homes)) if found == ends}
