"""Grass books and whether they fit: points 62 and 63, and tallgrass/plain/grassbook.py."""

import itertools
import random
import unittest

from helpers import GrassCase
from plainly import ROWS, left, lyings, plain, plain_meadows, subsets
from tallgrass.base.errors import BadName, BadNumber, BadPlacing, TooMany
from tallgrass.field.meadow import OLD, Meadow
from tallgrass.notes.book import Book
from tallgrass.plain.grassbook import grass_book, plain_fits
from tallgrass.sweep.papers import day_for, some_day_fits

LINE = plain("line")
LYING = {"p": "b", "q": "c"}
FOUR = {"r": "a", "s": "a", "t": "a", "u": "a"}


class Errors(GrassCase):
    def check_both(self, error, field, homes, lying, **told):
        for call in (grass_book, plain_fits):
            self.check_error(error, field, call, LINE, homes, lying, **told)

    def test_the_order_of_the_checks(self):
        bad = {"morning": {"p": "x", "x": "a"}, "starts": {"r": "z", "z": "a"}, "trodden": True}
        self.check_both(BadPlacing, "q", FOUR, {"p": "a"}, **bad)
        self.check_both(BadPlacing, "x", {}, {**LYING, "x": "a"}, **bad)
        self.check_both(TooMany, 3, FOUR, LYING, **bad)
        self.check_both(TooMany, 3, {"R": "a", "s": "z", "t": "a", "u": "a"}, LYING, **bad)
        self.check_both(BadNumber, 0, {}, LYING, **bad)
        self.check_both(BadName, "R", {"r": "z", "R": "a"}, LYING, **bad)
        self.check_both(BadName, "r1000", {"t": "z", "rr": "a", "r1000": "a"}, LYING, **bad)
        self.check_both(BadPlacing, "r", {"s": "z", "r": "y"}, LYING, **bad)
        self.check_both(BadPlacing, "s", {"s": "z", "r": "a"}, LYING, **bad)
        self.check_both(BadPlacing, "p", {"r": "a"}, LYING, **bad)
        self.check_both(BadPlacing, "x", {"r": "a"}, LYING, morning={"x": "a"}, starts={"r": "z"})
        self.check_both(BadPlacing, "r", {"r": "a"}, LYING, morning={"p": "a"}, starts={"r": "z", "z": "a"})
        self.check_both(BadPlacing, "r", {"s": "a"}, LYING, starts={"s": "z", "r": "a"})

    def test_lyings(self):
        self.check_both(BadPlacing, "p", {"r": "a"}, {})
        self.check_both(BadPlacing, "p", {"r": "a"}, {"p": "c", "q": "c"})
        self.check_both(BadPlacing, "o", {"r": "a"}, {**LYING, "o": "a"})

    def test_mornings(self):
        self.check_both(BadPlacing, "q", {"r": "a"}, LYING, morning={"q": "a"})
        self.check_both(BadPlacing, "p", {"r": "a"}, LYING, morning={"q": "a", "p": "c"})
        self.check_both(BadPlacing, "a", {"r": "a"}, LYING, morning={"a": "b", "p": "b"})
        self.check_both(BadPlacing, "q", {"r": "a"}, LYING, morning={"r": "b", "p": "b", "q": "z"})

    def test_starts(self):
        self.check_both(BadPlacing, "r", {"r": "a"}, LYING, starts={"r": "p"})
        self.check_both(BadPlacing, "w", {"r": "a"}, LYING, starts={"w": "a"})
        self.check_both(BadPlacing, "s", {"r": "a", "t": "b"}, LYING, starts={"t": "z", "s": "a", "r": "b"})


class Books(GrassCase):
    def test_by_hand(self):
        meadow = Meadow(1, ["a", "b", "c"], ["r", "s"], [("p", "a", "b"), ("q", "b", "c")],
                        signs=[("p", ["r", "s"], ["p"]), ("q", ["r", "s"], ["q"])])
        homes = {"s": "c", "r": "a"}
        at_p, at_q = [(1, "s", "p", "b"), (1, "r", "p", "b")], [(1, "r", "q", "c"), (1, "s", "q", "c")]
        maybe = Book(meadow, homes, ("shows", "p", [OLD, *at_p]), ("shows", "q", [OLD, *at_q]))
        surely = Book(meadow, homes, ("shows", "p", at_p), ("shows", "q", at_q))
        only_q = Book(meadow, homes, ("shows", "p", [OLD, *at_p]), ("shows", "q", at_q))
        for told, expected in [
                ({}, maybe), ({"trodden": True}, surely), ({"morning": None, "starts": None, "trodden": False}, maybe),
                ({"morning": {}, "starts": {}}, maybe), ({"morning": {"q": "b"}}, only_q),
                ({"morning": {"q": "b", "p": "b"}}, only_q), ({"morning": {"q": "b", "p": "a"}}, surely),
                ({"morning": {"q": "c"}}, maybe), ({"morning": {"p": "b", "q": "c"}, "trodden": True}, surely),
                ({"starts": {"r": "b"}}, maybe + ("start", "r", ["b"])),
                ({"starts": {"s": "c", "r": "b"}, "morning": {"q": "b"}},
                 only_q + ("start", "r", ["b"]) + ("start", "s", ["c"]))]:
            self.assertEqual(grass_book(LINE, homes, LYING, **told), expected)

    def test_the_meadow(self):
        meadow = Meadow(4, ["a", "b"], ["x"], [("p", "a", "b")], gates=[("x", "p", 0)])
        book = grass_book(meadow, {"t": "a", "r": "b", "s": "b"}, {"p": "a"})
        self.assertEqual(book.meadow, Meadow.grassy(1, ["a", "b"], ["r", "s", "t"], [("p", "a", "b")]))
        self.assertEqual(book.homes(), {"r": "b", "s": "b", "t": "a"})
        self.assertEqual(len(grass_book(meadow, {"x": "a"}, {"p": "b"}, starts={"x": "a"})), 2)

    def test_no_paths(self):
        book = grass_book(plain("point"), {"r": "a"}, {})
        self.assertEqual(book, Book(Meadow(1, ["a"], ["r"], []), {"r": "a"}))
        self.assertIs(plain_fits(plain("point"), {"r": "a"}, {}, trodden=True), True)

    def test_arguments_stay(self):
        given = [{"r": "a"}, dict(LYING), {"p": "a"}, {"r": "c"}]
        for call in (grass_book, plain_fits):
            call(LINE, given[0], given[1], morning=given[2], starts=given[3], trodden=True)
        self.assertEqual(given, [{"r": "a"}, LYING, {"p": "a"}, {"r": "c"}])
        book = grass_book(LINE, given[0], given[1])
        given[0]["r"] = given[1]["p"] = "c"
        self.assertEqual(book, grass_book(LINE, {"r": "a"}, LYING))


class Fits(GrassCase):
    def test_a_line(self):
        home = {"p": "a", "q": "b"}
        self.assertIs(plain_fits(LINE, {"r": "a"}, home), True)
        self.assertIs(plain_fits(LINE, {"r": "a"}, home, trodden=True), True)
        self.assertIs(plain_fits(LINE, {"r": "a"}, LYING), True)
        self.assertIs(plain_fits(LINE, {"r": "a"}, LYING, trodden=True), False)
        self.assertIs(plain_fits(LINE, {"r": "a"}, LYING, morning={"p": "b"}), True)
        self.assertIs(plain_fits(LINE, {"r": "a"}, LYING, morning={"p": "a"}), False)
        self.assertIs(plain_fits(LINE, {"r": "a"}, home, starts={"r": "c"}), True)
        self.assertIs(plain_fits(LINE, {"r": "a"}, {"p": "a", "q": "c"}, starts={"r": "c"}), False)
        self.assertIs(plain_fits(LINE, {"r": "a"}, LYING, starts={"r": "a"}), True)

    def cases(self, walkers, count):
        """Random arguments for small meadows, with the name of each."""
        rng = random.Random(len(walkers))
        return [self.case(name, walkers, rng) for name in ROWS for _ in range(count)]

    def case(self, name, walkers, rng):
        meadow = plain(name)
        homes = {walker: rng.choice(meadow.places) for walker in walkers}
        lying, morning = rng.choice(lyings(meadow)), rng.choice(lyings(meadow))
        told = {"morning": rng.choice([None, {path: morning[path] for path in morning if rng.random() < 0.5}]),
                "starts": rng.choice([None, {walker: rng.choice(meadow.places) for walker in walkers if rng.random() < 0.7}]),
                "trodden": rng.random() < 0.3}
        return (name, homes, lying, told)

    def test_the_grass_book(self):
        found = []
        for name, homes, lying, told in self.cases(["r"], 150) + self.cases(["s", "r"], 100):
            fits = plain_fits(plain(name), homes, lying, **told)
            book = grass_book(plain(name), homes, lying, **told)
            self.assertIs(fits, some_day_fits(book))
            if fits:
                self.assertTrue(book.fits(day_for(book)))
            found.append(fits)
        self.assertGreater(min(found.count(True), found.count(False)), 200)

    def test_all_that_can_be_left(self):
        found = []
        for name, homes, lying, told in self.cases(["r"], 200) + self.cases(["r", "s"], 100):
            if (name, len(homes)) != ("full", 2):
                fits = plain_fits(plain(name), homes, lying, **told)
                self.assertIs(fits, self.can_be_left(name, homes, lying, **told))
                found.append(fits)
        self.assertGreater(min(found.count(True), found.count(False)), 200)

    def can_be_left(self, name, homes, lying, morning, starts, trodden):
        morning, starts = morning or {}, starts or {}
        for first, ends, _ in left(name, tuple(homes.values())):
            first = dict(zip(homes, first))
            if (all(first[walker] == starts[walker] for walker in starts)
                    and all(end == lying[path] or end is None and not trodden and morning.get(path, lying[path]) == lying[path]
                            for path, end in zip(lying, ends))):
                return True
        return False

    def test_several_walkers(self):
        for meadow in plain_meadows():
            for lying in lyings(meadow):
                for places in itertools.combinations_with_replacement(meadow.places, 3):
                    homes = dict(zip(("r", "s", "t"), places))
                    self.assertIs(plain_fits(meadow, homes, lying, trodden=True),
                                  some_day_fits(grass_book(meadow, homes, lying, trodden=True)))


if __name__ == "__main__":
    unittest.main()
