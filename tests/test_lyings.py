"""Lyings paired with sets of paths: point 67, and tallgrass/plain/lyings.py."""

import unittest

from helpers import GrassCase
from plainly import large, lyings, plain, plain_meadows, subsets
from tallgrass.base.errors import BadNumber, BadPlacing, Twice, Unknown
from tallgrass.field.meadow import Meadow
from tallgrass.plain.leading import leading_home
from tallgrass.plain.lyings import joined_with, lying_of_paths, paths_of_lying

RING = plain("ring")
ROUND = {"p": "b", "q": "c", "s": "a"}


def paired(meadow, homes, lying):
    """The set of paths of a lying, step by step as in the words."""
    near, taken, found = {*homes}, set(), []
    while True:
        rows = sorted(row for row in meadow.paths if row[0] not in taken and near & {*row[1:]})
        if not rows:
            break
        path, low, high = rows[0]
        taken.add(path)
        if {low, high} <= near:
            if lying[path] == high:
                found.append(path)
        elif lying[path] in near:
            found.append(path)
            near |= {low, high}
    return sorted(found + [path for path, _, high in meadow.paths if path not in taken and lying[path] == high])


class Errors(GrassCase):
    def test_homes_first(self):
        for error, field, homes in ((BadNumber, 0, []), (Unknown, "z", ["a", "z", "y"])):
            self.check_error(error, field, paths_of_lying, RING, homes, {"x": "a"})
            self.check_error(error, field, lying_of_paths, RING, homes, ["x", "x"])
            self.check_error(error, field, joined_with, RING, homes, ["x", "x"])

    def test_lyings(self):
        for name, lying in (("p", {}), ("q", {**ROUND, "q": "a"}), ("a", {**ROUND, "a": "a"}), ("t", {**ROUND, "t": "a"})):
            self.check_error(BadPlacing, name, paths_of_lying, RING, ["a"], lying)

    def test_paths(self):
        for call in (lying_of_paths, joined_with):
            self.check_error(Unknown, "x", call, RING, ["a"], ["p", "x", "p"])
            self.check_error(Twice, "p", call, RING, ["a"], ["p", "q", "p", "x"])
            self.check_error(Unknown, "a", call, RING, ["a"], ("a",))


class Paired(GrassCase):
    def test_a_ring(self):
        self.assertEqual(paths_of_lying(RING, ["a"], {"p": "a", "q": "c", "s": "c"}), ["p"])
        self.assertEqual(paths_of_lying(RING, ["a"], ROUND), ["q", "s"])
        self.assertEqual(lying_of_paths(RING, ["a"], ["q", "s"]), ROUND)
        self.assertEqual(lying_of_paths(RING, ["a"], []), {"p": "b", "q": "b", "s": "c"})
        self.assertEqual(paths_of_lying(RING, ("a",), ROUND), ["q", "s"])
        self.assertEqual(lying_of_paths(RING, ("a", "a"), ("s", "q")), ROUND)
        self.assertEqual(joined_with(RING, ["a"], ["q"]), ["a"])
        self.assertEqual(joined_with(RING, ["a"], ["q", "p"]), ["a", "b", "c"])
        self.assertEqual(joined_with(RING, ["c", "a", "a"], []), ["a", "c"])

    def test_paths_that_are_never_taken(self):
        pairs = plain("pairs")
        self.assertEqual(paths_of_lying(pairs, ["a"], {"p": "c", "q": "d", "s": "b"}), ["q"])
        self.assertEqual(lying_of_paths(pairs, ["a"], ["p", "s"]), {"p": "a", "q": "b", "s": "d"})

    def test_a_path_that_is_reached_late(self):
        """The least path comes last, as its ends are reached by the others."""
        meadow = Meadow(1, list("abcd"), ["w"], [("a", "c", "d"), ("b", "b", "c"), ("c", "a", "b"), ("d", "b", "c")])
        self.assertEqual(paths_of_lying(meadow, ["a"], {"a": "c", "b": "b", "c": "a", "d": "c"}), ["a", "b", "c", "d"])
        self.assertEqual(lying_of_paths(meadow, ["a"], ["a", "b", "d"]), {"a": "d", "b": "c", "c": "b", "d": "c"})

    def test_no_paths(self):
        meadow = Meadow(1, ["a", "b"], ["w"], [])
        self.assertEqual(paths_of_lying(meadow, ["a"], {}), [])
        self.assertEqual(lying_of_paths(meadow, ["a"], []), {})
        self.assertEqual(joined_with(meadow, ["b"], []), ["b"])

    def test_all_lyings(self):
        for meadow in plain_meadows():
            for homes in subsets(meadow.places)[1:]:
                found = [self.check(meadow, [*homes[::-1], homes[0]], lying) for lying in lyings(meadow)]
                self.assertEqual(sorted(found), subsets(row[0] for row in meadow.paths))

    def test_the_largest_meadow(self):
        for homes in (["a"], ["g", "c"]):
            found = [self.check(large(), homes, lying) for lying in lyings(large())]
            self.assertEqual(len(set(found)), 512)

    def check(self, meadow, homes, lying):
        """There and back; returns the set that is paired with the lying."""
        paths = paths_of_lying(meadow, homes, lying)
        self.assertEqual(paths, paired(meadow, homes, lying))
        self.assertEqual(lying_of_paths(meadow, homes, tuple(paths[::-1])), lying)
        self.assertEqual(joined_with(meadow, homes, paths), leading_home(meadow, lying, homes))
        return tuple(paths)

    def test_joined(self):
        for meadow in plain_meadows():
            for homes in subsets(meadow.places)[1:]:
                for paths in subsets(row[0] for row in meadow.paths):
                    near = {*homes}
                    for _ in meadow.places:
                        near |= {place for path, *ends in meadow.paths if path in paths and near & {*ends} for place in ends}
                    self.assertEqual(joined_with(meadow, homes, list(paths)), sorted(near))

    def test_arguments_stay_and_what_is_returned_is_new(self):
        lying, homes, paths = dict(ROUND), ["b", "a", "b"], ["q", "p"]
        for call, given in ((paths_of_lying, lying), (lying_of_paths, paths), (joined_with, paths)):
            found = call(RING, homes, given)
            call(RING, homes, given).clear()
            self.assertEqual(call(RING, homes, given), found)
        self.assertEqual((lying, homes, paths), (ROUND, ["b", "a", "b"], ["q", "p"]))


if __name__ == "__main__":
    unittest.main()
