"""Lyings, homes, places that lead home, untrodden sets: points 60 and 61, and tallgrass/plain/leading.py."""

import unittest

from helpers import GrassCase
from plainly import large, leads, lyings, plain, plain_meadows, subsets, untrodden
from tallgrass.base.errors import BadNumber, BadPlacing, Unknown
from tallgrass.field.meadow import Meadow
from tallgrass.plain.leading import is_untrodden, leading_home, untrodden_sets

RING = plain("ring")
ROUND = {"p": "b", "q": "c", "s": "a"}


class Checks(GrassCase):
    def check_all(self, error, field, lying, homes):
        self.check_error(error, field, leading_home, RING, lying, homes)
        self.check_error(error, field, is_untrodden, RING, lying, homes, ["z"])
        self.check_error(error, field, list, untrodden_sets(RING, lying, homes))

    def test_lyings(self):
        for name, lying in [
                ("p", {}), ("p", {"q": "x", "s": "x"}), ("q", {"p": "a", "s": "x", "x": "a"}), ("s", {"p": "a", "q": "b"}),
                ("p", {"p": "c", "q": "a"}), ("q", {**ROUND, "q": "a"}), ("s", {**ROUND, "s": "b", "t": "a"}),
                ("s", {**ROUND, "s": "z"}), ("a", {**ROUND, "a": "a"}), ("k", {**ROUND, "z": "a", "k": "b", "s": "b"}),
                ("x", {**ROUND, "x": "a"}), ("p0", {**ROUND, "p0": "a", "q": "x"})]:
            for homes in (["a"], [], ["z"]):
                self.check_all(BadPlacing, name, lying, homes)

    def test_homes(self):
        self.check_all(BadNumber, 0, ROUND, [])
        self.check_all(Unknown, "z", ROUND, ["z"])
        self.check_all(Unknown, "z", ROUND, ["a", "z", "y"])
        self.check_all(Unknown, "p", ROUND, ("p", "a"))

    def test_no_paths(self):
        meadow = Meadow(3, ["b", "a"], ["r"], [])
        self.check_error(BadPlacing, "p", leading_home, meadow, {"p": "a"}, ["a"])
        self.assertEqual(leading_home(meadow, {}, ["b"]), ["b"])
        self.assertEqual(list(untrodden_sets(meadow, {}, ["b"])), [("a",)])
        self.assertEqual(list(untrodden_sets(meadow, {}, ["b", "a"])), [])

    def test_errors_come_when_the_iteration_starts(self):
        for lying, homes in (({}, ["a"]), (ROUND, []), (ROUND, ["z"])):
            untrodden_sets(RING, lying, homes)
        self.check_error(Unknown, "z", next, untrodden_sets(RING, ROUND, ["z"]))

    def test_places(self):
        self.check_error(Unknown, "z", is_untrodden, RING, ROUND, ["a"], ["z"])
        self.check_error(Unknown, "y", is_untrodden, RING, ROUND, ["a"], ["a", "y", "z"])
        self.check_error(Unknown, "q", is_untrodden, RING, ROUND, ["a"], ["q"])


class Leading(GrassCase):
    def test_a_ring(self):
        self.assertEqual(leading_home(RING, ROUND, ["a"]), ["a", "b", "c"])
        self.assertEqual(leading_home(RING, {**ROUND, "s": "c"}, ["a"]), ["a"])
        self.assertEqual(leading_home(RING, {**ROUND, "s": "c"}, ["b"]), ["a", "b"])
        self.assertEqual(leading_home(RING, {**ROUND, "s": "c"}, ["b", "b", "c"]), ["a", "b", "c"])

    def test_only_places_and_paths_matter(self):
        other = Meadow.grassy(6, ["c", "a", "b"], ["x", "y"], [("s", "c", "a"), ("q", "b", "c"), ("p", "b", "a")])
        for lying in lyings(RING):
            self.assertEqual(leading_home(other, lying, ("c",)), leading_home(RING, lying, ["c"]))

    def test_all_lyings(self):
        for meadow in plain_meadows():
            for lying in lyings(meadow):
                for homes in subsets(meadow.places)[1:]:
                    expected = [place for place in meadow.places if leads(meadow, lying, place) & {*homes}]
                    self.assertEqual(leading_home(meadow, lying, list(homes)), expected)

    def test_what_is_returned_is_new_and_arguments_stay(self):
        lying, homes = dict(ROUND), ["b", "a", "b"]
        leading_home(RING, lying, homes).clear()
        self.assertEqual(leading_home(RING, lying, homes), ["a", "b", "c"])
        list(untrodden_sets(RING, lying, homes))
        is_untrodden(RING, lying, homes, homes)
        self.assertEqual((lying, homes), (ROUND, ["b", "a", "b"]))


class Untrodden(GrassCase):
    def test_a_line(self):
        meadow = plain("line")
        lying = {"p": "b", "q": "b"}
        self.assertIs(is_untrodden(meadow, lying, ["c"], ["b"]), True)
        self.assertIs(is_untrodden(meadow, lying, ["c"], ["b", "a", "b"]), True)
        self.assertIs(is_untrodden(meadow, lying, ["c"], ("a",)), False)
        self.assertIs(is_untrodden(meadow, lying, ["c"], []), False)
        self.assertIs(is_untrodden(meadow, lying, ["b"], ["b"]), False)
        self.assertEqual(list(untrodden_sets(meadow, lying, ["c"])), [("a", "b"), ("b",)])

    def test_a_set_without_border_paths(self):
        meadow = plain("apart")
        self.assertIs(is_untrodden(meadow, {"p": "a"}, ["a"], ["c"]), True)
        self.assertIs(is_untrodden(meadow, {"p": "a"}, ["c"], ["b", "a"]), True)
        self.assertIs(is_untrodden(meadow, {"p": "a"}, ["c", "a"], ["b", "a"]), False)
        self.assertEqual(list(untrodden_sets(meadow, {"p": "a"}, ["c"])), [("a",), ("a", "b")])

    def test_all_sets(self):
        for meadow in plain_meadows():
            for lying in lyings(meadow):
                for homes in subsets(meadow.places)[1:]:
                    expected = [row for row in subsets(meadow.places) if untrodden(meadow, lying, homes, row)]
                    found = list(untrodden_sets(meadow, lying, homes))
                    self.assertEqual(found, expected)
                    self.check_greatest(meadow, lying, homes, found)
                    for row in subsets(meadow.places):
                        self.assertIs(is_untrodden(meadow, lying, homes, row[::-1] + row[:1]), row in expected)

    def check_greatest(self, meadow, lying, homes, found):
        """What does not lead home is the greatest of the sets; unions and what two share are such sets, too."""
        near = leading_home(meadow, lying, homes)
        gone = tuple(place for place in meadow.places if place not in near)
        self.assertEqual(max(found, key=len, default=()), gone)
        for row in found:
            for other in found:
                shared = {*row} & {*other}
                self.assertIn(tuple(sorted({*row} | {*other})), found)
                self.assertTrue(not shared or tuple(sorted(shared)) in found)

    def test_the_largest_meadow(self):
        meadow = large()
        lying = {path: high for path, _, high in meadow.paths}
        found = list(untrodden_sets(meadow, lying, ["a"]))
        self.assertEqual(found, [row for row in subsets(meadow.places) if untrodden(meadow, lying, ["a"], row)])
        self.assertEqual(found[0], ("b", "c", "d", "e", "f", "g"))
        self.assertEqual(found[-1], ("g",))


if __name__ == "__main__":
    unittest.main()
