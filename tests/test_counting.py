"""Counting lyings, and evenings: points 68 and 69, and tallgrass/plain/counting.py."""

import itertools
import random
import time
import unittest

from helpers import GrassCase
from plainly import ROWS, large, leads, lyings, plain, plain_meadows, subsets
from tallgrass.base.errors import BadName, BadNumber, BadPlacing, TooMany, Unknown
from tallgrass.field.meadow import Meadow
from tallgrass.plain.counting import count_by_leading, count_evenings, count_leading, evenings
from tallgrass.plain.grassbook import grass_book, plain_fits
from tallgrass.plain.lyings import joined_with
from tallgrass.sweep.papers import some_day_fits

LINE = plain("line")
RING = plain("ring")
FOUR = {"r": "a", "s": "a", "t": "a", "u": "a"}


class Counted(GrassCase):
    def test_homes(self):
        for call in (count_leading, count_by_leading):
            self.check_error(BadNumber, 0, call, RING, [])
            self.check_error(Unknown, "z", call, RING, ["a", "z", "y"])

    def test_a_ring(self):
        self.assertEqual(count_leading(RING, ["a"]), 4)
        self.assertEqual(count_leading(RING, ["c", "a", "a"]), 6)
        self.assertEqual(count_leading(RING, ["c", "b", "a"]), 8)
        self.assertEqual(count_by_leading(RING, ["a"]), {("a",): 2, ("a", "b"): 1, ("a", "c"): 1, ("a", "b", "c"): 4})

    def test_a_place_that_is_not_joined(self):
        self.assertEqual(count_leading(plain("apart"), ["a"]), 0)
        self.assertEqual(count_by_leading(plain("apart"), ["a"]), {("a",): 1, ("a", "b"): 1})
        self.assertEqual(count_leading(plain("apart"), ["a", "c"]), 1)

    def test_no_paths(self):
        self.assertEqual(count_leading(plain("point"), ["a"]), 1)
        self.assertEqual(count_by_leading(plain("point"), ["a"]), {("a",): 1})
        meadow = Meadow(1, ["a", "b"], ["r"], [])
        self.assertEqual((count_leading(meadow, ["a"]), count_by_leading(meadow, ["b"])), (0, {("b",): 1}))

    def check(self, meadow, homes):
        """Against all lyings, and against all sets of paths."""
        led, paired = {}, {}
        for lying in lyings(meadow):
            near = tuple(place for place in meadow.places if leads(meadow, lying, place) & {*homes})
            led[near] = led.get(near, 0) + 1
        for paths in subsets(row[0] for row in meadow.paths):
            near = tuple(joined_with(meadow, homes, paths))
            paired[near] = paired.get(near, 0) + 1
        self.assertEqual(led, paired)
        found = count_by_leading(meadow, homes)
        self.assertEqual(found, led)
        self.assertEqual(sum(found.values()), 2 ** len(meadow.paths))
        self.assertEqual(count_leading(meadow, homes), led.get(meadow.places, 0))

    def test_all_homes(self):
        for meadow in plain_meadows():
            for homes in subsets(meadow.places)[1:]:
                self.check(meadow, list(homes))

    def test_nine_paths_in_good_time(self):
        start = time.monotonic()
        for homes in (["a"], ["d", "g"]):
            self.check(large(), homes)
        self.assertLess(time.monotonic() - start, 10)

    def test_what_is_returned_is_new(self):
        count_by_leading(RING, ["a"]).clear()
        self.assertEqual(len(count_by_leading(RING, ["a"])), 4)


class Errors(GrassCase):
    def check_both(self, error, field, homes, **told):
        evenings(LINE, homes, **told)
        self.check_error(error, field, next, evenings(LINE, homes, **told))
        self.check_error(error, field, list, evenings(LINE, homes, **told))
        self.check_error(error, field, count_evenings, LINE, homes, **told)

    def test_the_order_of_the_checks(self):
        bad = {"morning": {"p": "x", "x": "a"}, "starts": {"r": "z", "z": "a"}, "trodden": True}
        self.check_both(TooMany, 3, FOUR, **bad)
        self.check_both(TooMany, 3, {"R": "a", "s": "z", "t": "a", "u": "a"}, **bad)
        self.check_both(BadNumber, 0, {}, **bad)
        self.check_both(BadName, "R", {"r": "z", "R": "a"}, **bad)
        self.check_both(BadPlacing, "r", {"s": "z", "r": "y"}, **bad)
        self.check_both(BadPlacing, "p", {"r": "a"}, **bad)
        self.check_both(BadPlacing, "x", {"r": "a"}, morning={"x": "a"}, starts={"r": "z"})
        self.check_both(BadPlacing, "q", {"r": "a"}, morning={"q": "a"})
        self.check_both(BadPlacing, "r", {"r": "a"}, morning={"p": "a"}, starts={"r": "z", "z": "a"})
        self.check_both(BadPlacing, "r", {"s": "a"}, starts={"s": "z", "r": "a"})


class Evenings(GrassCase):
    def test_a_line(self):
        self.assertEqual(list(evenings(LINE, {"r": "a"}, trodden=True)), [{"p": "a", "q": "b"}])
        self.assertEqual(list(evenings(LINE, {"r": "a"}, starts={"r": "b"})), [{"p": "a", "q": "b"}, {"p": "a", "q": "c"}])
        self.assertEqual(list(evenings(LINE, {"r": "a"}, morning={"p": "b"})),
                         [{"p": "a", "q": "b"}, {"p": "a", "q": "c"}, {"p": "b", "q": "b"}, {"p": "b", "q": "c"}])
        self.assertEqual(list(evenings(LINE, {"r": "a"}, morning={"p": "b", "q": "c"}, starts={"r": "c"})), [{"p": "a", "q": "b"}])
        self.assertEqual(list(evenings(plain("apart"), {"r": "c"}, trodden=True)), [])

    def test_no_paths(self):
        meadow = Meadow(1, ["a", "b"], ["x"], [])
        self.assertEqual(list(evenings(meadow, {"r": "a"}, trodden=True)), [{}])
        self.assertEqual(list(evenings(meadow, {"r": "a"}, starts={"r": "b"})), [])
        self.assertEqual(count_evenings(meadow, {"r": "a"}, starts={"r": "a"}), 1)

    def test_all_lyings(self):
        rng = random.Random(31)
        counts = []
        for name in ROWS:
            meadow = plain(name)
            for _ in range(25):
                walkers = ["r", "s", "t"][:rng.randint(1, 3)]
                homes = {walker: rng.choice(meadow.places) for walker in walkers}
                morning = rng.choice(lyings(meadow))
                told = {"morning": rng.choice([None, {path: morning[path] for path in morning if rng.random() < 0.7}]),
                        "starts": rng.choice([None, {walker: rng.choice(meadow.places) for walker in walkers if rng.random() < 0.5}]),
                        "trodden": rng.random() < 0.3}
                found = list(evenings(meadow, homes, **told))
                self.assertEqual(found, [one for one in lyings(meadow) if plain_fits(meadow, homes, one, **told)])
                for lying in lyings(meadow)[::3]:
                    self.assertIs(lying in found, some_day_fits(grass_book(meadow, homes, lying, **told)))
                self.assertEqual(count_evenings(meadow, homes, **told), len(found))
                counts.append(len(found))
        self.assertGreater(len(set(counts)), 8)

    def test_the_largest_meadow(self):
        start = time.monotonic()
        found = list(evenings(large(), {"r": "a", "s": "e"}, trodden=True))
        self.assertEqual(len(found), count_evenings(large(), {"s": "a", "r": "e"}, trodden=True))
        self.assertEqual(len(found), count_leading(large(), ["e", "a"]))
        self.assertEqual(found, sorted(found, key=lambda lying: tuple(lying[path] for path, *_ in large().paths)))
        self.assertLess(time.monotonic() - start, 10)

    def test_what_is_yielded_is_new_and_arguments_stay(self):
        homes, morning, starts = {"r": "a"}, {"p": "b"}, {"r": "b"}
        for lying in evenings(LINE, homes, morning=morning, starts=starts):
            lying.clear()
        self.assertEqual(count_evenings(LINE, homes, morning=morning, starts=starts), 2)
        self.assertEqual(list(evenings(LINE, homes, morning=morning, starts=starts))[0], {"p": "a", "q": "b"})
        self.assertEqual((homes, morning, starts), ({"r": "a"}, {"p": "b"}, {"r": "b"}))


if __name__ == "__main__":
    unittest.main()
