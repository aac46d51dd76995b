"""The order of last goings: point 64, and tallgrass/plain/ordering.py."""

import itertools
import unittest

from helpers import GrassCase
from plainly import ROWS, large, leads, lyings, orders, plain, plain_meadows, subsets
from tallgrass.base.errors import BadNumber, BadPath, BadPlacing, NoDay, Unknown
from tallgrass.plain.grassbook import grass_book
from tallgrass.plain.ordering import last_paths, later_pairs, surely_later, way_past
from tallgrass.sweep.papers import some_day_fits

RING = plain("ring")
ROUND = {"p": "b", "q": "c", "s": "a"}
BACK = {"p": "a", "q": "b", "s": "a"}


def all_lead(meadow, lying, homes):
    return all(leads(meadow, lying, place) & {*homes} for _, *ends in meadow.paths for place in ends)


def cases(meadow):
    """All lyings and homes with which every path leads home."""
    return [(lying, list(homes)) for lying in lyings(meadow) for homes in subsets(meadow.places)[1:]
            if all_lead(meadow, lying, homes)]


class Errors(GrassCase):
    def check_all(self, error, field, lying, homes):
        for call in (surely_later, way_past):
            self.check_error(error, field, call, RING, lying, homes, "p", "x")
        for call in (later_pairs, last_paths):
            self.check_error(error, field, call, RING, lying, homes)

    def test_lyings_and_homes(self):
        self.check_all(BadPlacing, "q", {"p": "b", "s": "a"}, [])
        self.check_all(BadPlacing, "o", {**ROUND, "o": "a"}, ["z"])
        self.check_all(BadPlacing, "s", {**ROUND, "s": "b"}, ["a"])
        self.check_all(BadNumber, 0, ROUND, [])
        self.check_all(BadNumber, 0, BACK, [])
        self.check_all(Unknown, "z", BACK, ["c", "z", "y"])

    def test_paths(self):
        for call in (surely_later, way_past):
            for lying in (ROUND, BACK):
                self.check_error(Unknown, "x", call, RING, lying, ["c"], "x", "y")
                self.check_error(Unknown, "y", call, RING, lying, ["c"], "p", "y")
                self.check_error(Unknown, "a", call, RING, lying, ["c"], "a", "a")
                self.check_error(BadPath, "q", call, RING, lying, ["c"], "q", "q")

    def test_no_day(self):
        for call in (surely_later, way_past):
            self.check_error(NoDay, None, call, RING, BACK, ["c"], "p", "q")
        for call in (later_pairs, last_paths):
            self.check_error(NoDay, None, call, RING, BACK, ["b", "c"])
            self.check_error(NoDay, None, call, plain("line"), {"p": "a", "q": "b"}, ["b"])
            self.check_error(NoDay, None, call, plain("apart"), {"p": "a"}, ["c"])

    def test_a_place_without_paths(self):
        self.assertEqual(later_pairs(plain("apart"), {"p": "a"}, ["a"]), [])
        self.assertEqual(last_paths(plain("apart"), {"p": "a"}, ["a"]), ["p"])
        self.assertEqual(last_paths(plain("apart"), {"p": "a"}, ["c", "b", "a"]), ["p"])
        self.assertEqual(later_pairs(plain("point"), {}, ["a"]), [])
        self.assertEqual(last_paths(plain("point"), {}, ["a"]), [])

    def test_just_where_every_place_leads_home(self):
        for meadow in plain_meadows():
            for lying in lyings(meadow):
                for homes in subsets(meadow.places)[1:]:
                    if not all_lead(meadow, lying, homes):
                        self.check_error(NoDay, None, later_pairs, meadow, lying, homes)
                        self.check_error(NoDay, None, last_paths, meadow, lying, homes)


class Orders(GrassCase):
    def test_a_ring(self):
        self.assertEqual(later_pairs(RING, ROUND, ["a"]), [("q", "p"), ("s", "p"), ("s", "q")])
        self.assertIs(surely_later(RING, ROUND, ["a"], "s", "p"), True)
        self.assertIs(surely_later(RING, ROUND, ["a"], "p", "s"), False)
        self.assertIsNone(way_past(RING, ROUND, ["a"], "s", "p"))
        self.assertEqual(way_past(RING, ROUND, ["a"], "p", "q"), ["s"])
        self.assertEqual(way_past(RING, ROUND, ["a"], "p", "s"), [])
        self.assertEqual(last_paths(RING, ROUND, ["a"]), ["s"])
        self.assertEqual(last_paths(RING, ROUND, ("c", "a", "c")), ["q", "s"])

    def test_two_ways(self):
        kite = plain("kite")
        lying = {"p": "a", "q": "c", "s": "d", "t": "b"}
        self.assertEqual(way_past(kite, lying, ["a"], "q", "s"), ["t", "p"])
        self.assertIsNone(way_past(kite, lying, ["a"], "t", "s"))
        self.assertEqual(later_pairs(kite, lying, ["a"]), [("p", "q"), ("p", "s"), ("p", "t"), ("s", "q"), ("t", "q"), ("t", "s")])

    def test_all_orders(self):
        seen = 0
        for name in ROWS:
            meadow = plain(name)
            for lying, homes in cases(meadow):
                if len(homes) < 2 or len(homes) == 2 and name != "full":
                    found = orders(name, homes, lying)
                    found = [order for order in found if len(order) == len(lying)]
                    self.assertTrue(found)
                    self.check_orders(meadow, lying, homes, found)
                    seen += 1
        self.assertGreater(seen, 100)

    def check_orders(self, meadow, lying, homes, found):
        pairs = [(path, other) for path, other in itertools.permutations(lying, 2)
                 if all(order.index(path) > order.index(other) for order in found)]
        self.assertEqual(later_pairs(meadow, lying, homes), pairs)
        self.assertEqual(last_paths(meadow, lying, homes), sorted({order[-1] for order in found if order}))
        for path, other in itertools.permutations(lying, 2):
            self.assertIs(surely_later(meadow, lying, homes, path, other), (path, other) in pairs)

    def test_the_grass_book_with_a_note(self):
        for meadow in plain_meadows():
            for lying, homes in cases(meadow)[::7]:
                if len(homes) <= 3:
                    book = grass_book(meadow, dict(zip("rst", homes)), lying, trodden=True)
                    for path, other in itertools.permutations(lying, 2):
                        fits = some_day_fits(book + ("nolater", path, other))
                        self.assertIs(surely_later(meadow, lying, homes, path, other), not fits)

    def test_ways(self):
        meadow = large()
        rows = [(meadow, lying, homes) for lying in lyings(meadow)[::3] for homes in (["a"], ["e", "a", "a"])
                if all_lead(meadow, lying, homes)]
        rows += [(meadow, lying, homes) for meadow in plain_meadows() for lying, homes in cases(meadow)]
        seen = 0
        for meadow, lying, homes in rows:
            pairs = later_pairs(meadow, lying, homes)
            self.assertEqual(pairs, sorted(pairs))
            for path, other in itertools.permutations(lying, 2):
                way = way_past(meadow, lying, homes, path, other)
                self.assertIs(surely_later(meadow, lying, homes, path, other), way is None)
                self.assertIs((path, other) in pairs, way is None)
                if way is not None:
                    self.check_way(meadow, lying, homes, way, lying[other])
                    self.assertNotIn(path, way)
                    seen += len(way) > 1
        self.assertGreater(seen, 100)

    def check_way(self, meadow, lying, homes, way, place):
        self.assertIsInstance(way, list)
        self.assertEqual(len(way), len(set(way)))
        for path in way:
            self.assertEqual(meadow.across(path, lying[path]), place)
            place = lying[path]
        self.assertIn(place, homes)
        self.assertTrue(way or place in homes)

    def test_arguments_stay_and_what_is_returned_is_new(self):
        lying, homes = dict(ROUND), ["a", "a"]
        for call in (later_pairs, last_paths):
            found = call(RING, lying, homes)
            call(RING, lying, homes).clear()
            self.assertEqual(call(RING, lying, homes), found)
        way_past(RING, lying, homes, "p", "q").clear()
        self.assertEqual(way_past(RING, lying, homes, "p", "q"), ["s"])
        self.assertEqual((lying, homes), (ROUND, ["a", "a"]))


if __name__ == "__main__":
    unittest.main()
