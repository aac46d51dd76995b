"""Whereabouts and meetings: points 33 to 35, and tallgrass/where/places.py."""

import unittest

from helpers import GrassCase, line_meadow
from samples import all_sampled, fitting
from tallgrass.base.errors import BadNumber, NoDay, Twice, Unknown
from tallgrass.field.meadow import OLD, Meadow
from tallgrass.notes.book import Book
from tallgrass.notes.kinds import holds
from tallgrass.sweep.papers import day_for, some_day_fits
from tallgrass.sweep.sweeping import sweep
from tallgrass.where.places import can_be, latest_at, latest_meeting, latest_on, meeting_places, whereabouts
from tallgrass.where.stations import day_through

HOMES = {"r": "a", "s": "c"}
FREE = Book(line_meadow(3), HOMES)
LATE = Book(line_meadow(3), HOMES, ("shows", "q", [(2, "s", "q", "c")]), ("away", "r", "b", 3))
NONE = Book(line_meadow(3), HOMES, ("start", "r", []))


def meet(day, walkers, hour):
    """The places at which the walkers are together in a placing that lasts through the hour."""
    found = set()
    for k in range(len(day) + 1):
        since = day.goings[k - 1][0] if k > 0 else 1
        until = day.goings[k][0] if k < len(day) else day.meadow.hours
        places = {day.placing(k)[walker] for walker in walkers}
        if since <= hour <= until and len(places) == 1:
            found |= places
    return found


class Whereabouts(GrassCase):
    def test_ordinary(self):
        self.assertEqual(whereabouts(FREE, 3), {"r": ["a", "b", "c"], "s": ["a", "b", "c"]})
        self.assertEqual(whereabouts(LATE, 1), {"r": ["a", "b", "c"], "s": ["a", "b", "c"]})
        self.assertEqual(whereabouts(LATE, 2), {"r": ["a", "b", "c"], "s": ["a", "b", "c"]})
        self.assertEqual(whereabouts(LATE, 3), {"r": ["a"], "s": ["c"]})
        self.assertTrue(can_be(LATE, "r", "c", 2))
        self.assertFalse(can_be(LATE, "r", "b", 3))
        self.assertIs(can_be(LATE, "r", "a", 3), True)
        self.assertEqual((latest_at(LATE, "r", "b"), latest_at(LATE, "r", "a"), latest_at(LATE, "s", "a")), (2, 3, 2))
        self.assertEqual((latest_on(LATE, "r", "p"), latest_on(LATE, "s", "p"), latest_on(LATE, "r", "q")), (2, 2, 2))

    def test_never(self):
        book = Book(line_meadow(3), HOMES, ("shows", "p", [OLD]), ("off", "s", "q", 1))
        self.assertEqual((latest_at(book, "r", "b"), latest_at(book, "r", "c"), latest_at(book, "s", "b")), (0, 0, 0))
        self.assertEqual((latest_on(book, "r", "p"), latest_on(book, "r", "q"), latest_on(book, "s", "q")), (0, 0, 0))
        self.assertEqual(latest_meeting(book, ["r", "s"]), 0)
        self.assertEqual(meeting_places(book, ["r", "s"], 1), [])

    def test_an_open_path_out_of_reach(self):
        meadow = Meadow(2, ["a", "b", "c"], ["r"], [("p", "a", "b"), ("q", "b", "c")], gates=[("r", "p", 1)])
        book = Book(meadow, {"r": "a"})
        self.assertEqual((latest_on(book, "r", "q"), latest_on(book, "r", "p"), latest_at(book, "r", "c")), (1, 1, 1))
        book = Book(meadow, {"r": "b"})
        self.assertEqual((latest_on(book, "r", "q"), latest_at(book, "r", "a"), latest_at(book, "r", "c")), (2, 1, 2))

    def test_it_is_the_reach(self):
        for book, _ in all_sampled():
            for hour in range(1, book.meadow.hours + 1):
                if some_day_fits(book):
                    swept = sweep(book)
                    self.assertEqual(whereabouts(book, hour),
                                     {walker: list(swept.reach(walker, hour)) for walker in book.meadow.walkers})
                else:
                    self.check_error(NoDay, None, whereabouts, book, hour)

    def test_all_days_with_few_goings(self):
        for book, days in all_sampled():
            if not some_day_fits(book):
                continue
            for walker in book.meadow.walkers:
                for place in book.meadow.places:
                    self.check_latest(book, days, ("at", walker, place), latest_at(book, walker, place))
                for path, *_ in book.meadow.paths:
                    self.check_latest(book, days, ("on", walker, path), latest_on(book, walker, path))

    def check_latest(self, book, days, start, latest):
        """A day makes the note of the latest hour true, and no day one of a later hour."""
        if latest > 0:
            day = day_for(book + (*start, latest))
            self.assertTrue(book.fits(day) and holds(day, (*start, latest)))
        for hour in range(latest + 1, book.meadow.hours + 1):
            self.assertFalse(any(holds(day, (*start, hour)) for day in days))
            self.assertIsNone(day_for(book + (*start, hour)))

    def test_places_of_all_days_with_few_goings(self):
        for book, days in all_sampled():
            if some_day_fits(book):
                for hour in range(1, book.meadow.hours + 1):
                    self.check_places(book, days, hour)

    def check_places(self, book, days, hour):
        found = whereabouts(book, hour)
        for walker in book.meadow.walkers:
            seen = {place for day in days for place in day.where(walker, hour)}
            self.assertLessEqual(seen, set(found[walker]))
            for place in book.meadow.places:
                self.assertIs(can_be(book, walker, place, hour), place in found[walker])
                if place in found[walker]:
                    day = day_through(book, [(hour, {walker: place})])
                    self.assertTrue(book.fits(day))
                    self.assertIn(place, day.where(walker, hour))

    def test_errors(self):
        for book in (FREE, NONE):
            for hour in (0, 4, -1):
                self.check_error(BadNumber, hour, whereabouts, book, hour)
                self.check_error(BadNumber, hour, can_be, book, "r", "a", hour)
            self.check_error(Unknown, "a", can_be, book, "a", "x", 0)
            self.check_error(Unknown, "x", can_be, book, "r", "x", 0)
            self.check_error(Unknown, "a", latest_at, book, "a", "x")
            self.check_error(Unknown, "p", latest_at, book, "r", "p")
            self.check_error(Unknown, "p", latest_on, book, "p", "a")
            self.check_error(Unknown, "a", latest_on, book, "r", "a")

    def test_no_day(self):
        self.check_error(NoDay, None, whereabouts, NONE, 1)
        self.check_error(NoDay, None, can_be, NONE, "r", "a", 1)
        self.check_error(NoDay, None, latest_at, NONE, "r", "a")
        self.check_error(NoDay, None, latest_on, NONE, "r", "p")
        self.check_error(NoDay, None, meeting_places, NONE, ["r"], 1)
        self.check_error(NoDay, None, latest_meeting, NONE, ["r"])

    def test_what_is_returned_is_new(self):
        found = whereabouts(FREE, 1)
        found["r"].clear()
        self.assertEqual(whereabouts(FREE, 1)["r"], ["a", "b", "c"])
        meeting_places(FREE, ["r"], 1).clear()
        self.assertEqual(meeting_places(FREE, ["r"], 1), ["a", "b", "c"])

    def test_a_book_with_twenty_notes(self):
        book = Book(line_meadow(6), HOMES, *[(word, walker, "p", hour) for hour in range(1, 6) for walker in "rs"
                                             for word in ("on", "off")][:16], ("off", "r", "p", 6), ("off", "s", "p", 6),
                    ("at", "s", "b", 1), ("at", "s", "b", 2))
        self.assertEqual(len(book), 20)
        self.check_error(NoDay, None, latest_on, book, "r", "p")
        book = Book(line_meadow(6), HOMES, *[("on", walker, path, hour) for hour in range(1, 6) for walker in "rs"
                                             for path in "pq"])
        self.assertEqual(len(book), 20)
        self.assertEqual((latest_on(book, "r", "p"), latest_at(book, "s", "a"), latest_meeting(book, ["s", "r"])), (6, 6, 6))


class Meetings(GrassCase):
    def test_ordinary(self):
        self.assertEqual(meeting_places(LATE, ["s", "r"], 2), ["a", "b", "c"])
        self.assertEqual(meeting_places(LATE, ["r", "s"], 3), [])
        self.assertEqual(latest_meeting(LATE, ("r", "s")), 2)
        self.assertEqual(latest_meeting(FREE, ["r", "s"]), 3)

    def test_a_single_walker_meets_itself(self):
        for hour in (1, 2, 3):
            for walker in "rs":
                self.assertEqual(meeting_places(LATE, [walker], hour), whereabouts(LATE, hour)[walker])
        self.assertEqual(latest_meeting(LATE, ["r"]), 3)

    def test_days(self):
        for book, days in all_sampled():
            walkers = list(book.meadow.walkers)
            if some_day_fits(book):
                hours = []
                for hour in range(1, book.meadow.hours + 1):
                    found = meeting_places(book, walkers, hour)
                    self.assertEqual(found, sorted(found))
                    seen = {place for day in days for place in meet(day, walkers, hour)}
                    self.assertLessEqual(seen, set(found))
                    for place in found:
                        day = day_through(book, [(hour, {walker: place for walker in walkers})])
                        self.assertTrue(book.fits(day))
                        self.assertIn(place, meet(day, walkers, hour))
                    hours += [hour] * bool(found)
                self.assertEqual(latest_meeting(book, walkers), max(hours, default=0))

    def test_three_walkers(self):
        meadow = Meadow(2, ["a", "b", "c"], ["r", "s", "t"], [("p", "a", "b"), ("q", "b", "c")],
                        gates=[("t", "q", 1), ("s", "p", 0)])
        book = Book(meadow, {"r": "a", "s": "b", "t": "c"})
        self.assertEqual(meeting_places(book, ["t", "r", "s"], 1), ["b", "c"])
        self.assertEqual(meeting_places(book, ["t", "r", "s"], 2), ["c"])
        self.assertEqual(meeting_places(book, ["t", "r"], 1), ["a", "b", "c"])
        self.assertEqual(latest_meeting(book, ["r", "s", "t"]), 2)
        self.assertEqual(latest_meeting(book + ("off", "s", "q", 2), ["r", "s", "t"]), 1)

    def test_errors(self):
        for book in (FREE, NONE):
            for call, rest in ((meeting_places, (9,)), (latest_meeting, ())):
                self.check_error(BadNumber, 0, call, book, [], *rest)
                self.check_error(Unknown, "t", call, book, ["r", "t", "r"], *rest)
                self.check_error(Twice, "r", call, book, ["r", "r", "t"], *rest)
                self.check_error(Unknown, "a", call, book, ["a"], *rest)
            for hour in (0, 4):
                self.check_error(BadNumber, hour, meeting_places, book, ["r"], hour)


class Fitting(GrassCase):
    def test_there_are_such_days(self):
        self.assertGreater(sum(len(days) for _, days in all_sampled()), 1000)
        self.assertEqual(fitting(1, Book(line_meadow(2), HOMES, ("start", "r", []))), [])


if __name__ == "__main__":
    unittest.main()
