"""Days through stations: points 36 and 37, and tallgrass/where/stations.py."""

import random
import unittest

from helpers import GrassCase, line_meadow
from samples import all_sampled, random_books
from tallgrass.base.errors import BadNumber, BadPlacing, NoDay, OutOfReach, TooMany
from tallgrass.field.days import Day
from tallgrass.field.meadow import OLD
from tallgrass.notes.book import Book
from tallgrass.notes.kinds import holds
from tallgrass.sweep.papers import day_for, some_day_fits
from tallgrass.where.places import whereabouts
from tallgrass.where.stations import day_through
from test_sweep import LARGE

HOMES = {"r": "a", "s": "c"}
FREE = Book(line_meadow(3), HOMES)
LATE = Book(line_meadow(3), HOMES, ("shows", "q", [(2, "s", "q", "c")]), ("away", "r", "b", 3))
NONE = Book(line_meadow(3), HOMES, ("start", "r", []))


def lasts(day, k, hour):
    since = day.goings[k - 1][0] if k > 0 else 1
    until = day.goings[k][0] if k < len(day) else day.meadow.hours
    return since <= hour <= until


def passes(day, stations):
    """Whether the day passes the stations, by the words of point 36."""
    placings = [day.starts()]
    for _, walker, _, place in day:
        placings.append({**placings[-1], walker: place})
    least = 0
    for hour, placing in stations:
        good = [k for k in range(least, len(day) + 1) if lasts(day, k, hour)
                and all(placings[k][walker] == place for walker, place in placing.items())]
        if not good:
            return False
        least = good[0]
    return True


class Stations(GrassCase):
    def check_day(self, book, stations):
        day = day_through(book, stations)
        self.assertIsInstance(day, Day)
        self.assertTrue(book.fits(day))
        self.assertTrue(passes(day, stations), (stations, day.goings))

    def test_no_station(self):
        self.check_day(FREE, [])
        self.check_day(LATE, ())

    def test_one_station(self):
        self.check_day(LATE, [(2, {"r": "c", "s": "a"})])
        self.check_day(LATE, [(1, {"s": "a"})])
        self.check_day(FREE, [(3, {"s": "a", "r": "a"})])

    def test_an_empty_placing(self):
        for hour in (1, 2, 3):
            self.check_day(LATE, [(hour, {})])
        self.check_day(FREE, [(1, {}), (2, {"r": "c"}), (2, {}), (3, {}), (3, {"r": "b"})])

    def test_several_stations_at_one_hour(self):
        self.check_day(LATE, [(2, {"r": "c"}), (2, {"r": "a", "s": "a"}), (2, {"r": "c", "s": "b"}), (3, {"r": "a"})])
        self.check_day(FREE, [(1, {"r": "c"}), (1, {"r": "b"}), (3, {"s": "a"}), (3, {"s": "c", "r": "c"})])

    def test_twenty_stations(self):
        stations = [(hour, {"r": place, "s": other}) for hour in (1, 2) for place in "abc" for other in "abc"]
        self.check_day(LATE, stations + [(3, {}), (3, {"r": "a", "s": "c"})])
        self.check_error(TooMany, 20, day_through, LATE, stations + [(3, {})] * 3)
        self.check_error(TooMany, 20, day_through, NONE, [(9, {"x": "y"})] * 21)

    def test_random_stations(self):
        rng = random.Random(5)
        for book, _ in all_sampled():
            if some_day_fits(book):
                for _ in range(5):
                    self.check_stations(book, rng, 4)

    def test_large_books(self):
        rng = random.Random(6)
        for most in (3, 20):
            for book in random_books(LARGE, 20, most):
                if some_day_fits(book):
                    self.check_stations(book, rng, 20)

    def check_stations(self, book, rng, most):
        """Random stations: either a day passes them, or the first one with a place out of reach is named."""
        hours = sorted(rng.randint(1, book.meadow.hours) for _ in range(rng.randint(0, most)))
        stations = []
        for hour in hours:
            chosen = rng.sample(book.meadow.walkers, rng.randint(0, len(book.meadow.walkers)))
            near = whereabouts(book, hour)
            stations.append((hour, {walker: rng.choice(rng.choice([near[walker], near[walker], book.meadow.places]))
                                    for walker in chosen}))
        bad = [index for index, (hour, placing) in enumerate(stations)
               if any(place not in whereabouts(book, hour)[walker] for walker, place in placing.items())]
        if bad:
            self.check_error(OutOfReach, bad[0], day_through, book, stations)
        else:
            self.check_day(book, stations)

    def test_days_pass_only_what_is_in_reach(self):
        for book, days in all_sampled():
            for day in days[::10]:
                stations = [(hour, day.placing(k)) for k in range(len(day) + 1)
                            for hour in range(1, book.meadow.hours + 1) if lasts(day, k, hour)]
                self.assertTrue(passes(day, stations))
                self.check_day(book, stations)

    def test_out_of_reach(self):
        for index, stations in enumerate([[(3, {"r": "b"})], [(1, {"r": "b"}), (3, {"s": "c", "r": "b"}), (3, {"r": "c"})]]):
            self.check_error(OutOfReach, index, day_through, LATE, stations)
        book = LATE + ("at", "r", "b", 3)
        self.assertIsNone(day_for(book))
        self.check_error(OutOfReach, 0, day_through, Book(line_meadow(1), HOMES, ("shows", "p", [OLD])), [(1, {"r": "c"})])

    def test_no_day_makes_the_note_true(self):
        for book, days in all_sampled():
            if some_day_fits(book):
                for hour in range(1, book.meadow.hours + 1):
                    for walker, near in whereabouts(book, hour).items():
                        for place in set(book.meadow.places) - set(near):
                            self.check_error(OutOfReach, 0, day_through, book, [(hour, {walker: place})])
                            self.assertFalse(any(holds(day, ("at", walker, place, hour)) for day in days))

    def test_hours(self):
        for book in (FREE, NONE):
            for hour in (0, 4, -1):
                self.check_error(BadNumber, hour, day_through, book, [(hour, {"x": "y"})])
                self.check_error(BadNumber, hour, day_through, book, [(1, {}), (hour, {"x": "y"})])
            self.check_error(BadNumber, 1, day_through, book, [(2, {}), (1, {})])
            self.check_error(BadNumber, 2, day_through, book, [(2, {}), (3, {}), (2, {"x": "y"}), (0, {})])

    def test_placings(self):
        for book in (FREE, NONE):
            self.check_error(BadPlacing, "a", day_through, book, [(1, {"s": "x", "r": "a", "a": "a"}), (0, {})])
            self.check_error(BadPlacing, "r", day_through, book, [(1, {"s": "x", "r": "p"}), (0, {})])
            self.check_error(BadPlacing, "s", day_through, book, [(1, {"s": "s", "r": "a"}), (2, {"q": "a"})])
            self.check_error(BadPlacing, "t", day_through, book, [(1, {}), (2, {"r": "a", "t": "a"})])

    def test_no_day_ahead_of_reach(self):
        self.check_error(NoDay, None, day_through, NONE, [])
        blocked = Book(line_meadow(3), HOMES, ("start", "r", []), ("shows", "p", [OLD]))
        self.check_error(NoDay, None, day_through, blocked, [(1, {"r": "c"})])

    def test_arguments_stay(self):
        stations = [(2, {"r": "c"}), (3, {})]
        day_through(LATE, stations)
        self.assertEqual(stations, [(2, {"r": "c"}), (3, {})])


if __name__ == "__main__":
    unittest.main()
