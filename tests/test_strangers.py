"""Strangers, bottoms and companies: point 65, and tallgrass/plain/strangers.py."""

import unittest

from helpers import GrassCase
from plainly import ROWS, large, leads, left, lyings, plain, plain_meadows, subsets
from tallgrass.base.errors import BadPlacing, Unknown
from tallgrass.plain.strangers import bottoms, company_suffices, fewest_strangers, least_companies

LINE = plain("line")
PAIRS = plain("pairs")


def is_bottom(meadow, lying, places):
    """Whether a set of places is a bottom, by the words."""
    return (bool(places) and all(leads(meadow, lying, place) == {*places} for place in places)
            and any(place in ends for _, *ends in meadow.paths for place in places))


class Errors(GrassCase):
    def test_lyings(self):
        for name, lying in (("p", {}), ("p", {"q": "b"}), ("q", {"p": "a"}), ("q", {"p": "a", "q": "a"}),
                            ("a", {"p": "a", "q": "b", "a": "b"}), ("z", {"p": "a", "q": "b", "z": "b"})):
            for call in (bottoms, fewest_strangers):
                self.check_error(BadPlacing, name, call, LINE, lying)
            self.check_error(BadPlacing, name, company_suffices, LINE, lying, ["z"])
            least_companies(LINE, lying)
            self.check_error(BadPlacing, name, next, least_companies(LINE, lying))
            self.check_error(BadPlacing, name, list, least_companies(LINE, lying))

    def test_places(self):
        lying = {"p": "a", "q": "b"}
        self.check_error(Unknown, "z", company_suffices, LINE, lying, ["a", "z", "y"])
        self.check_error(Unknown, "q", company_suffices, LINE, lying, ["q"])


class Bottoms(GrassCase):
    def test_a_line(self):
        self.assertEqual(bottoms(LINE, {"p": "a", "q": "b"}), [("a",)])
        self.assertEqual(bottoms(LINE, {"p": "a", "q": "c"}), [("a",), ("c",)])
        self.assertEqual(bottoms(LINE, {"p": "b", "q": "b"}), [("b",)])
        self.assertIs(company_suffices(LINE, {"p": "a", "q": "c"}, ["c", "b", "a"]), True)
        self.assertIs(company_suffices(LINE, {"p": "a", "q": "c"}, ["c", "c", "b"]), False)
        self.assertIs(company_suffices(LINE, {"p": "a", "q": "c"}, []), False)

    def test_pairs(self):
        lying = {"p": "c", "q": "b", "s": "d"}
        self.assertEqual(bottoms(PAIRS, lying), [("b", "d"), ("c",)])
        self.assertEqual(fewest_strangers(PAIRS, lying), 2)
        self.assertEqual(list(least_companies(PAIRS, lying)), [("b", "c"), ("c", "d")])
        self.assertIs(company_suffices(PAIRS, lying, ("d", "c")), True)
        self.assertIs(company_suffices(PAIRS, lying, ("b", "d")), False)

    def test_no_paths(self):
        self.assertEqual(bottoms(plain("point"), {}), [])
        self.assertEqual(fewest_strangers(plain("point"), {}), 0)
        self.assertIs(company_suffices(plain("point"), {}, []), True)
        self.assertIs(company_suffices(plain("point"), {}, ["a"]), True)
        self.assertEqual(list(least_companies(plain("point"), {})), [()])

    def test_a_place_without_paths(self):
        self.assertEqual(bottoms(plain("apart"), {"p": "b"}), [("b",)])
        self.assertEqual(list(least_companies(plain("apart"), {"p": "b"})), [("b",)])
        self.assertIs(company_suffices(plain("apart"), {"p": "b"}, ["c"]), False)

    def test_all_sets(self):
        for meadow in [*plain_meadows(), large()]:
            for lying in lyings(meadow)[::7 if len(meadow.places) == 7 else 1]:
                found = [row for row in subsets(meadow.places) if is_bottom(meadow, lying, row)]
                self.assertEqual(bottoms(meadow, lying), found)
                enough = [row for row in subsets(meadow.places) if all({*row} & {*one} for one in found)]
                for row in subsets(meadow.places):
                    self.assertIs(company_suffices(meadow, lying, row[::-1] + row[:1]), row in enough)
                least = [row for row in enough if not any({*other} < {*row} for other in enough)]
                self.assertEqual(list(least_companies(meadow, lying)), least)
                self.assertEqual(fewest_strangers(meadow, lying), min(map(len, enough)))

    def test_all_that_strangers_can_leave(self):
        for name in ROWS:
            meadow = plain(name)
            for places in subsets(meadow.places):
                if 0 < len(places) < 3 and (name, len(places)) != ("full", 2):
                    ends = {ends for _, ends, _ in left(name, places)}
                    for lying in lyings(meadow):
                        self.assertIs(company_suffices(meadow, lying, places), tuple(lying.values()) in ends)

    def test_arguments_stay_and_what_is_returned_is_new(self):
        lying, places = {"p": "c", "q": "b", "s": "d"}, ["c", "b", "c"]
        bottoms(PAIRS, lying).clear()
        self.assertEqual(len(bottoms(PAIRS, lying)), 2)
        company_suffices(PAIRS, lying, places)
        self.assertEqual((lying, places), ({"p": "c", "q": "b", "s": "d"}, ["c", "b", "c"]))


if __name__ == "__main__":
    unittest.main()
