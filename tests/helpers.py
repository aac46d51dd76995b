"""What several tests share: checks of errors, small meadows, all short days."""

import unittest

from tallgrass.base import errors
from tallgrass.field.days import Day
from tallgrass.field.meadow import Meadow

FIELDS = {
    errors.BadName: "name", errors.Unknown: "name", errors.Twice: "name", errors.BadPath: "name",
    errors.BadPlacing: "name", errors.BadNumber: "number", errors.TooMany: "most",
    errors.BadGoing: "index", errors.OutOfReach: "index", errors.BadMark: "mark",
    errors.BadNote: "note", errors.NotThere: "thing", errors.BadLine: "line",
    errors.Clash: None, errors.NoDay: None, errors.TooLarge: None,
}


class GrassCase(unittest.TestCase):
    maxDiff = None

    def check_error(self, error, field, call, *args, **named):
        """The call raises just this error, with this value in its field."""
        with self.assertRaises(errors.GrassError) as caught:
            call(*args, **named)
        found = caught.exception
        self.assertIs(type(found), error, found)
        self.assertIsInstance(found, ValueError)
        for other in FIELDS:
            if other is not error:
                self.assertNotIsInstance(found, other)
        if FIELDS[error] is not None:
            self.assertEqual(getattr(found, FIELDS[error]), field)


def line_meadow(hours=3):
    """Three places in a row, two walkers, a sign on each path."""
    return Meadow.grassy(hours, ["a", "b", "c"], ["r", "s"], [("p", "a", "b"), ("q", "b", "c")])


def small_meadows():
    """Meadows in which all days with few goings can be looked at."""
    row = [("p", "a", "b"), ("q", "b", "c")]
    ring = row + [("t", "a", "c")]
    return [
        Meadow.grassy(2, ["a", "b", "c"], ["r"], ring),
        line_meadow(2),
        Meadow(2, ["a", "b", "c"], ["r", "s"], ring, gates=[("r", "p", 1), ("s", "q", 0)],
               signs=[("u", ["r", "s"], ["p"]), ("v", ["s"], ["p", "t"]), ("w", ["r"], ["q", "t"])]),
        Meadow(3, ["a", "b"], ["r", "s"], [("p", "a", "b"), ("q", "a", "b")], gates=[("s", "q", 2)],
               signs=[("u", ["r"], ["p", "q"]), ("v", ["r", "s"], ["q"])]),
    ]


def meadow_of(hours=3, places=4, paths=5, walkers=2, signs=5):
    """A meadow with so many of everything; without arguments it is the largest that is small."""
    names = "abcdefg"[:places]
    rows = [(f"p{at}", names[at % places], names[(at + 1) % places]) for at in range(paths)]
    group = ["r", "s", "t"][:walkers]
    return Meadow(hours, list(names), group, rows, signs=[(f"u{at}", group, [f"p{at % paths}"]) for at in range(signs)])


def larger_meadows():
    """Meadows that are not small, each by one more of something."""
    return [meadow_of(hours=4), meadow_of(places=5), meadow_of(paths=6), meadow_of(walkers=3), meadow_of(signs=6)]


def all_at(meadow, place):
    return {walker: place for walker in meadow.walkers}


def next_goings(day):
    """All goings that are possible behind those of the day."""
    meadow = day.meadow
    homes = day.homes()
    least = day.goings[-1][0] if len(day) else 1
    return [(hour, walker, path, meadow.across(path, homes[walker]))
            for walker in meadow.walkers for path in meadow.paths_at(homes[walker])
            for hour in range(least, meadow.gate(walker, path) + 1)]


def all_days(meadow, most):
    """All days with at most so many goings."""
    starts = [{}]
    for walker in meadow.walkers:
        starts = [{**start, walker: place} for start in starts for place in meadow.places]
    days = row = [Day(meadow, start, []) for start in starts]
    for _ in range(most):
        row = [day + going for day in row for going in next_goings(day)]
        days = days + row
    return days
