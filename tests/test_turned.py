"""Paths turned by hand: point 66, and tallgrass/plain/turned.py."""

import itertools
import unittest

from helpers import GrassCase
from plainly import large, leads, lyings, plain, plain_meadows, subsets, untrodden
from tallgrass.base.errors import BadNumber, BadPlacing, NoDay, Unknown
from tallgrass.field.meadow import Meadow
from tallgrass.least.strikes import fewest_strikes
from tallgrass.plain.grassbook import grass_book
from tallgrass.plain.turned import fewest_turned, judge_turned

LINE = plain("line")
OUT = {"p": "b", "q": "c"}


def borders(meadow, places):
    return {path for path, *ends in meadow.paths if len({*ends} & {*places}) == 1}


def is_enough(meadow, lying, homes, paths):
    """Whether each place at which a path ends leads home once the paths are turned."""
    turned = {path: meadow.across(path, end) if path in paths else end for path, end in lying.items()}
    return all(leads(meadow, turned, place) & {*homes} for _, *ends in meadow.paths for place in ends)


def cases(meadow, step=1):
    return [(lying, list(homes)) for lying in lyings(meadow)[::step] for homes in subsets(meadow.places)[1:]]


class Errors(GrassCase):
    def test_lyings_and_homes(self):
        for error, field, lying, homes in [
                (BadPlacing, "q", {"p": "a"}, []), (BadPlacing, "a", {**OUT, "a": "a"}, ["z"]), (BadPlacing, "p", {"p": "c", "q": "a"}, []),
                (BadNumber, 0, OUT, []), (Unknown, "z", OUT, ["a", "z", "y"])]:
            self.check_error(error, field, fewest_turned, LINE, lying, homes)
            self.check_error(error, field, judge_turned, LINE, lying, homes, ["x"], [("z",)])

    def test_no_day(self):
        pairs = plain("pairs")
        lying = {"p": "a", "q": "b", "s": "b"}
        for homes in (["a"], ["b"], ["d", "b"]):
            self.check_error(NoDay, None, fewest_turned, pairs, lying, homes)
            self.assertIs(judge_turned(pairs, lying, homes, [], []), False)
        self.check_error(NoDay, None, fewest_turned, plain("apart"), {"p": "a"}, ["c"])
        self.check_error(BadNumber, 0, fewest_turned, pairs, lying, [])
        self.check_error(BadPlacing, "p", fewest_turned, plain("apart"), {}, ["c"])

    def test_just_where_the_paths_join_the_homes(self):
        for meadow in plain_meadows():
            for lying, homes in cases(meadow):
                if not is_enough(meadow, lying, homes, []) and not any(is_enough(meadow, lying, homes, row) for row in subsets(lying)):
                    self.check_error(NoDay, None, fewest_turned, meadow, lying, homes)


class Fewest(GrassCase):
    def test_a_line(self):
        self.assertEqual(fewest_turned(LINE, {"p": "a", "q": "b"}, ["a"]), ([], []))
        self.assertEqual(fewest_turned(LINE, {"p": "a", "q": "c"}, ["a"]), (["q"], [("c",)]))
        paths, sets = fewest_turned(LINE, OUT, ["a"])
        self.assertEqual((paths, sorted(sets)), (["p", "q"], [("b", "c"), ("c",)]))
        self.assertEqual(fewest_turned(LINE, OUT, ["a", "c", "c"]), ([], []))

    def test_a_place_without_paths(self):
        self.assertEqual(fewest_turned(plain("apart"), {"p": "a"}, ["b"]), (["p"], [("a",)]))
        self.assertEqual(fewest_turned(plain("apart"), {"p": "a"}, ["a"]), ([], []))
        self.assertEqual(fewest_turned(plain("point"), {}, ["a"]), ([], []))

    def check(self, meadow, lying, homes):
        paths, sets = fewest_turned(meadow, lying, homes)
        self.assertIsInstance(paths, list)
        self.assertEqual(paths, sorted(set(paths)))
        self.assertTrue(is_enough(meadow, lying, homes, paths))
        self.assertEqual(len(sets), len(paths))
        for places in sets:
            self.assertEqual(places, tuple(sorted(set(places))))
            self.assertTrue(untrodden(meadow, lying, homes, places))
            self.assertTrue(borders(meadow, places))
        for one, other in itertools.combinations(sets, 2):
            self.assertFalse(borders(meadow, one) & borders(meadow, other))
        self.assertIs(judge_turned(meadow, lying, homes, paths, sets), True)
        self.assertIs(judge_turned(meadow, lying, homes, tuple(paths[::-1]), [list(row[::-1] + row) for row in sets[::-1]]), True)
        return len(paths)

    def test_all_lyings(self):
        counts = []
        for meadow in plain_meadows():
            for lying, homes in cases(meadow):
                enough = [row for row in subsets(lying) if is_enough(meadow, lying, homes, row)]
                if enough:
                    counts.append(self.check(meadow, lying, homes))
                    self.assertEqual(counts[-1], min(map(len, enough)))
        self.assertGreater(counts.count(2), 30)

    def test_the_largest_meadow(self):
        meadow = large()
        counts = [self.check(meadow, lying, homes) for lying in lyings(meadow)[::5] for homes in (["a"], ["e"], ["b", "f"])]
        self.assertGreater(max(counts), 2)
        path = Meadow(1, list("abcdefg"), ["w"], [(f"p{at}", "abcdefg"[at], "abcdefg"[at + 1]) for at in range(6)])
        out = {row[0]: row[2] for row in path.paths}
        self.assertEqual(self.check(path, out, ["a"]), 6)
        star = Meadow(1, list("abcdefg"), ["w"], [(f"p{at}", "a", "bcdefg"[at]) for at in range(6)] + [("q", "a", "b"), ("s", "a", "b")])
        self.assertEqual(self.check(star, {row[0]: row[2] for row in star.paths}, ["a"]), 6)

    def test_fewest_strikes(self):
        seen = 0
        for meadow in plain_meadows():
            for lying, homes in cases(meadow, 3):
                if len(homes) < 3 and any(is_enough(meadow, lying, homes, row) for row in subsets(lying)):
                    book = grass_book(meadow, dict(zip("rs", homes)), lying, trodden=True)
                    self.assertEqual(len(fewest_strikes(book)[0]), len(fewest_turned(meadow, lying, homes)[0]))
                    seen += 1
        self.assertGreater(seen, 100)

    def test_arguments_stay_and_what_is_returned_is_new(self):
        lying, homes = dict(OUT), ["a", "a"]
        paths, sets = fewest_turned(LINE, lying, homes)
        given = (list(paths), list(sets))
        judge_turned(LINE, lying, homes, paths, sets)
        self.assertEqual((lying, homes, paths, sets), (OUT, ["a", "a"], *given))
        paths.clear()
        sets.clear()
        self.assertEqual(fewest_turned(LINE, lying, homes), given)


class Judged(GrassCase):
    def judge(self, paths, sets, lying=OUT, homes=("a",), meadow=LINE):
        return judge_turned(meadow, lying, homes, paths, sets)

    def test_in_any_order(self):
        for paths in (["p", "q"], ["q", "p"]):
            for sets in ([("c",), ("b", "c")], [("c", "b"), ("c",)], [["b", "c", "b"], ("c", "c")]):
                self.assertIs(self.judge(paths, sets), True)

    def test_paths(self):
        sets = [("c",), ("b", "c")]
        for paths in (["p", "p"], ["p", "q", "q"], ["p"], ["q"], [], ["p", "x"], ["p", "q", "x"], ["x", "y"], ["p", "b"]):
            self.assertIs(self.judge(paths, sets), False)
        self.assertIs(self.judge(["p", "p"], [("c",), ("b",)], {"p": "b", "q": "b"}, ["a", "c"]), False)
        self.assertIs(self.judge(["p", "x"], sets, {"p": "a", "q": "c"}), False)

    def test_paths_that_are_not_enough(self):
        twice = plain("twice")
        self.assertIs(self.judge(["p"], [("b",)], {"p": "b", "q": "b"}, ["a"], twice), True)
        self.assertIs(self.judge(["q"], [("b",)], {"p": "b", "q": "b"}, ["a"], twice), True)
        self.assertIs(self.judge(["p"], [("c",)], {"p": "a", "q": "c"}), False)

    def test_sets(self):
        paths = ["p", "q"]
        for sets in ([("c",)], [("b", "c")], [], [("c",), ("b", "c"), ("c",)], [("c",), ("c",)], [("b", "c"), ("c", "b")],
                     [("c",), ("b",)], [("c",), ("a", "b", "c")], [("c",), ()], [("c",), ("b", "c", "z")], [("c",), ("z",)],
                     [("c",), ("p",)], [("b", "c"), ("c", "x")], [(), ()]):
            self.assertIs(self.judge(paths, sets), False)

    def test_a_set_without_a_border_path(self):
        apart = plain("apart")
        self.assertIs(self.judge(["p"], [("b",)], {"p": "b"}, ["a"], apart), True)
        self.assertIs(self.judge(["p"], [("c",)], {"p": "b"}, ["a"], apart), False)
        self.assertIs(self.judge(["p"], [("b", "c")], {"p": "b"}, ["a"], apart), True)
        self.assertIs(self.judge([], [], {"p": "a"}, ["a"], apart), True)

    def test_sets_that_share_a_border_path(self):
        star = Meadow(1, list("abcd"), ["w"], [("p", "a", "b"), ("q", "b", "c"), ("s", "b", "d")])
        lying = {"p": "b", "q": "c", "s": "d"}
        whole = [("c",), ("d",), ("b", "c", "d")]
        self.assertIs(self.judge(["p", "q", "s"], whole, lying, ["a"], star), True)
        ring = plain("ring")
        lying = {"p": "b", "q": "b", "s": "c"}
        self.assertIs(self.judge(["p"], [("b",)], lying, ["a"], ring), True)
        self.assertIs(self.judge(["s"], [("b", "c")], lying, ["a"], ring), False)
        self.assertIs(self.judge(["p", "s"], [("b",), ("b", "c")], lying, ["a"], ring), False)
        self.assertIs(self.judge(["p", "q"], [("b",), ("b", "c")], lying, ["a"], ring), False)

    def test_more_than_the_fewest(self):
        ring = plain("ring")
        lying = {"p": "a", "q": "b", "s": "c"}
        self.assertIs(self.judge([], [], lying, ["a"], ring), True)
        self.assertIs(self.judge(["s"], [("c",)], lying, ["a"], ring), False)

    def test_all_lists(self):
        """All lists of different paths and of sets, judged by the words."""
        for name in ("line", "twice", "ring", "apart"):
            meadow = plain(name)
            rows = subsets(meadow.places)[1:]
            for lying, homes in cases(meadow):
                for paths in subsets(lying)[:6]:
                    enough = is_enough(meadow, lying, homes, paths)
                    for sets in itertools.combinations(rows, len(paths)):
                        expected = (enough and all(untrodden(meadow, lying, homes, one) and borders(meadow, one) for one in sets)
                                    and not any(borders(meadow, one) & borders(meadow, two) for one, two in itertools.combinations(sets, 2)))
                        self.assertIs(judge_turned(meadow, lying, homes, list(paths), list(sets)), bool(expected))


if __name__ == "__main__":
    unittest.main()
