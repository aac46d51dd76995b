"""Faces: points 55 to 57, and tallgrass/sides/face.py."""

import itertools
import random
import unittest

from helpers import GrassCase, all_at, all_days, line_meadow, meadow_of, small_meadows
from samples import random_book, random_side
from tallgrass.base.errors import BadNote, BadPlacing, Clash, TooLarge, TooMany
from tallgrass.field.meadow import OLD, Meadow
from tallgrass.notes.book import Book
from tallgrass.sides.face import Face, coming_hours, face, faces_fit
from tallgrass.sides.side import Side
from tallgrass.sweep.papers import day_for, some_day_fits
from tallgrass.sweep.sweeping import sweep
from test_answers import HOURS, MORE

LEFT = Meadow.grassy(2, ["a", "m"], ["r", "s"], [("p", "a", "m")])
RIGHT = Meadow.grassy(2, ["m", "z"], ["r", "s"], [("q", "m", "z")])
BY_S = ("shows", "p", [(1, "s", "p", "m")])


def left(*notes):
    return Side(Book(LEFT, {"r": "a", "s": "m"}, *notes), "m", ["s"])


def right(*notes):
    return Side(Book(RIGHT, {"r": "m", "s": "z"}, *notes), "m", ["r"])


def lowered(side, arrivals):
    """The book of a side in a meadow in which the gates of the outsiders are lowered to the arrival hours."""
    meadow = side.book.meadow
    gates = [(walker, path, min(meadow.gate(walker, path), arrivals.get(walker, meadow.hours)))
             for walker in meadow.walkers for path, *_ in meadow.paths]
    less = Meadow(meadow.hours, meadow.places, meadow.walkers, meadow.paths, gates=gates, signs=meadow.signs)
    notes = [("shows", note[1], [mark for mark in note[2] if mark in less.all_marks(note[1])]) if note[0] == "shows" else note
             for note in side.book.notes]
    return Book(less, side.book.homes(), *notes)


def latest_near(swept, walker, place):
    """The greatest hour at which a place is in the reach of a walker, or 0."""
    return max([hour for hour in range(1, swept.book.meadow.hours + 1) if place in swept.reach(walker, hour)], default=0)


def rows_by_words(side):
    """The rows of the face, taken from the sweep with the gates lowered."""
    rows = []
    for hours in itertools.product(range(side.book.meadow.hours + 1), repeat=len(side.outsiders)):
        book = lowered(side, dict(zip(side.outsiders, hours)))
        coming = [latest_near(sweep(book), walker, side.place) for walker in side.residents]
        rows.append((hours, some_day_fits(book), tuple(coming)))
    return tuple(rows)


def random_sides(count, seed):
    rng = random.Random(seed)
    groups = [(["r"], []), (["r"], ["r"]), (["r", "s"], ["s"]), (["r", "s"], ["s", "r"]), (["r", "s", "t"], ["t", "r"])]
    return [random_side(rng, *rng.choice(groups), hours=rng.randint(1, 3)) for _ in range(count)]


class Bounds(GrassCase):
    def check_large(self, meadow, outsiders, *notes):
        side = Side(Book(meadow, all_at(meadow, "a"), *notes), "a", outsiders)
        for call in (face, Face):
            self.check_error(TooLarge, None, call, side)

    def test_at_the_bounds(self):
        for outsiders in ([], ["r"], ["r", "s"]):
            meadow = meadow_of(walkers=3)
            found = face(Side(Book(meadow, all_at(meadow, "a")), "a", outsiders))
            self.assertIsInstance(found, Face)
            self.assertEqual(len(found.rows), 4 ** len(outsiders))

    def test_beyond_the_bounds(self):
        for meadow in (meadow_of(hours=4), meadow_of(places=5), meadow_of(paths=6), meadow_of(signs=6)):
            self.check_large(meadow, [])
            self.check_large(meadow, ["s", "r"])
        self.check_large(meadow_of(1, 2, 1, 3, 0), ["r", "s", "t"])
        many = [("at", "r", place, hour) for place in "bcd" for hour in (1, 2, 3)]
        many += [("on", "s", path, hour) for path in ("p0", "p1", "p2") for hour in (1, 2, 3)]
        self.check_large(meadow_of(signs=6), [], *many)

    def test_notes(self):
        meadow = line_meadow(3)
        sixteen = Book(meadow, {"r": "a", "s": "c"}, *HOURS, *MORE[:4])
        self.assertEqual(len(sixteen), 16)
        for call in (face, Face):
            self.assertEqual(len(call(Side(sixteen, "a", [])).rows), 1)
            self.check_error(TooMany, 16, call, Side(sixteen + ("start", "r", []), "a", []))


class Rows(GrassCase):
    def test_attributes(self):
        found = face(left(BY_S))
        self.assertEqual((found.hours, found.walkers, found.outsiders, found.residents), (2, ("r", "s"), ("s",), ("r",)))
        self.assertEqual(found.rows, (((0,), False, (0,)), ((1,), True, (1,)), ((2,), True, (1,))))
        self.assertIsInstance(found, Face)
        self.assertEqual(Face(left(BY_S)).rows, found.rows)

    def test_no_outsiders(self):
        side = Side(Book(LEFT, {"r": "a", "s": "m"}, ("shows", "p", [OLD, (1, "s", "p", "m")])), "m", [])
        self.assertEqual(face(side).rows, (((), True, (1, 2)),))
        side = Side(Book(LEFT, {"r": "a", "s": "m"}, ("shows", "p", [OLD])), "m", [])
        self.assertEqual(face(side).rows, (((), True, (0, 2)),))

    def test_no_residents(self):
        side = Side(Book(LEFT, {"r": "m", "s": "m"}, ("on", "r", "p", 2), ("at", "s", "a", 1)), "m", ["s", "r"])
        self.assertEqual(face(side).residents, ())
        self.assertEqual([row[0] for row in face(side).rows if row[1]], [(2, 1), (2, 2)])
        self.assertEqual({row[2] for row in face(side).rows}, {()})

    def test_two_outsiders(self):
        meadow = Meadow.grassy(2, ["a", "m"], ["r", "s", "t"], [("p", "a", "m")])
        at_p = ("shows", "p", [(1, "r", "p", "m"), (2, "t", "p", "m")])
        found = face(Side(Book(meadow, {"r": "m", "s": "a", "t": "m"}, at_p), "m", ["t", "r"]))
        self.assertEqual(found.rows, (
            ((0, 0), False, (0,)), ((0, 1), False, (0,)), ((0, 2), True, (2,)), ((1, 0), True, (1,)), ((1, 1), True, (1,)),
            ((1, 2), True, (2,)), ((2, 0), True, (1,)), ((2, 1), True, (1,)), ((2, 2), True, (2,))))

    def test_an_away_note_at_home(self):
        side = Side(Book(LEFT, {"r": "m", "s": "m"}, ("away", "r", "m", 2)), "m", ["s"])
        self.assertEqual([row[1:] for row in face(side).rows], [(False, (2,))] * 3)

    def test_the_sweep_with_lowered_gates(self):
        found = [face(side).rows for side in random_sides(300, 3)]
        self.assertEqual(found, [rows_by_words(side) for side in random_sides(300, 3)])
        good = [row[1] for rows in found for row in rows]
        self.assertGreater(min(good.count(True), good.count(False)), 300)

    def test_later_arrivals_lower_nothing(self):
        for side in random_sides(100, 5):
            rows = face(side).rows
            self.assertEqual(rows, tuple(sorted(rows)))
            for one, other in itertools.product(rows, rows):
                if all(hour <= after for hour, after in zip(one[0], other[0])):
                    self.assertLessEqual(one[1], other[1])
                    self.assertTrue(all(hour <= after for hour, after in zip(one[2], other[2])))

    def test_all_days_with_few_goings(self):
        """Days in which the outsiders go no later than they arrive fit only good sides."""
        rng = random.Random(8)
        seen = 0
        for at, meadow in enumerate(small_meadows()):
            days = all_days(meadow, (4, 3, 3, 3)[at])
            for _ in range(15):
                side = self.some_side(meadow, rng)
                rows = face(side).rows
                fitting = [day for day in days if side.book.fits(day)]
                for row in rows:
                    seen += self.check_days(side, row, fitting)
        self.assertGreater(seen, 1000)

    def some_side(self, meadow, rng):
        while True:
            book = random_book(meadow, rng, 3)
            outsiders = [walker for walker in meadow.walkers if book.home(walker) == "a" and rng.random() < 0.8]
            try:
                return Side(book, "a", outsiders)
            except BadNote:
                continue

    def check_days(self, side, row, days):
        arrivals = dict(zip(side.outsiders, row[0]))
        within = [day for day in days if all(hour <= arrivals.get(walker, hour) for hour, walker, *_ in day)]
        if within:
            self.assertIs(row[1], True)
        for walker, latest in zip(side.residents, row[2]):
            for hour in range(latest + 1, side.book.meadow.hours + 1):
                self.assertFalse(any(side.place in day.where(walker, hour) for day in within))
        book = lowered(side, arrivals)
        if row[1]:
            self.assertTrue(side.book.fits(self.same_day(side.book.meadow, day_for(book))))
            for walker, latest in zip(side.residents, row[2]):
                if latest:
                    self.assertTrue(some_day_fits(book + ("at", walker, side.place, latest)))
        return len(within)

    def same_day(self, meadow, day):
        return type(day)(meadow, day.starts(), day.goings)


class Asked(GrassCase):
    def test_ok_and_coming(self):
        for side in [left(BY_S), *random_sides(40, 6)]:
            found = face(side)
            for arrivals, good, coming in found.rows:
                told = dict(zip(side.outsiders, arrivals))
                self.assertIs(found.ok(told), good)
                self.assertEqual(found.coming(told), dict(zip(side.residents, coming)))
                self.assertEqual(told, dict(zip(side.outsiders, arrivals)))

    def test_what_is_returned_is_new(self):
        found = face(left(BY_S))
        found.coming({"s": 2}).clear()
        self.assertEqual(found.coming({"s": 2}), {"r": 1})

    def test_wrong_arrivals(self):
        meadow = Meadow(2, ["m"], ["r", "s", "t"], [])
        found = face(Side(Book(meadow, all_at(meadow, "m")), "m", ["t", "s"]))
        for name, arrivals in [
                ("s", {}), ("s", {"t": 3}), ("t", {"s": 2}), ("r", {"r": 0, "t": 9}), ("s", {"s": -1, "t": 3}),
                ("s", {"s": 3, "t": 0}), ("t", {"s": 2, "t": 3}), ("t", {"s": 0, "t": -1, "x": 1}), ("x", {"s": 0, "t": 2, "x": 1}),
                ("m", {"s": 0, "t": 2, "m": 0}), ("r", {"s": 0, "t": 0, "r": 0}), ("s", {"t": 0, "u": 0})]:
            self.check_error(BadPlacing, name, found.ok, arrivals)
            self.check_error(BadPlacing, name, found.coming, arrivals)
        self.assertEqual(found.coming({"t": 0, "s": 2}), {"r": 2})

    def test_nobody_arrives(self):
        found = face(Side(Book(LEFT, {"r": "a", "s": "m"}), "m", []))
        self.assertEqual((found.ok({}), found.coming({})), (True, {"r": 2, "s": 2}))
        self.check_error(BadPlacing, "r", found.ok, {"r": 1})


class Together(GrassCase):
    def test_two_faces(self):
        by_any = ("shows", "q", [(1, "s", "q", "z"), (2, "s", "q", "z")])
        one, two = face(left(BY_S)), face(right(by_any))
        for faces in ((one, two), (two, one)):
            self.assertEqual(coming_hours(*faces), {"r": 1, "s": 2})
            self.assertIs(faces_fit(*faces), True)
        two = face(right(by_any, ("at", "r", "z", 2)))
        self.assertEqual(coming_hours(one, two), {"r": 1, "s": 2})
        self.assertIs(faces_fit(one, two), False)

    def test_they_wait_for_one_another(self):
        """Neither can come before the other one has come."""
        one, two = face(left(BY_S)), face(right(("shows", "q", [(1, "r", "q", "m")])))
        self.assertEqual(coming_hours(one, two), {"r": 0, "s": 0})
        self.assertIs(faces_fit(one, two), False)

    def test_one_face(self):
        side = Side(Book(LEFT, {"r": "a", "s": "m"}, ("shows", "p", [OLD])), "m", [])
        self.assertEqual(coming_hours(face(side)), {"r": 0, "s": 2})
        self.assertIs(faces_fit(face(side)), True)
        self.assertIs(faces_fit(face(Side(side.book + ("on", "r", "p", 1), "m", []))), False)

    def test_a_face_without_residents(self):
        nobody = Side(Book(RIGHT, {"r": "m", "s": "m"}, ("at", "s", "z", 2)), "m", ["r", "s"])
        side = Side(Book(LEFT, {"r": "a", "s": "m"}, ("shows", "p", [(1, "r", "p", "a")])), "m", [])
        self.assertEqual(coming_hours(face(nobody), face(side)), {"r": 1, "s": 2})
        self.assertIs(faces_fit(face(nobody), face(side)), True)
        self.assertTrue(some_day_fits((nobody + side).book))

    def test_clash(self):
        one, two = face(left()), face(right())
        free = Meadow(3, ["m"], ["r", "s"], [])
        other = Meadow(2, ["m"], ["r", "t"], [])
        for faces in [(), (one,), (two,), (one, one), (one, two, two), (one, two, one),
                      (one, face(Side(Book(free, all_at(free, "m")), "m", ["r"]))),
                      (one, face(Side(Book(other, all_at(other, "m")), "m", ["r"]))),
                      (face(Side(Book(free, all_at(free, "m")), "m", [])), face(Side(Book(LEFT, all_at(LEFT, "m")), "m", ["r", "s"])))]:
            self.check_error(Clash, None, coming_hours, *faces)
            self.check_error(Clash, None, faces_fit, *faces)
        self.assertEqual(coming_hours(one, two), {"r": 2, "s": 2})

    def test_clash_of_walkers_that_are_no_residents(self):
        """The residents are just the walkers of one face, but another one has other outsiders."""
        one = face(left())
        for walkers, outsiders in ((["s", "t"], ["t"]), (["r", "s", "t"], ["r", "t"]), (["s"], [])):
            meadow = Meadow(2, ["m"], walkers, [])
            two = face(Side(Book(meadow, all_at(meadow, "m")), "m", outsiders))
            for faces in ((one, two), (two, one)):
                self.check_error(Clash, None, coming_hours, *faces)
                self.check_error(Clash, None, faces_fit, *faces)

    def test_what_is_returned_is_new(self):
        one, two = face(left()), face(right())
        coming_hours(one, two).clear()
        self.assertEqual(coming_hours(one, two), {"r": 2, "s": 2})

    def sides(self, rng):
        """Sides that can be joined and leave no outsider."""
        hours = rng.randint(1, 3)
        shares = rng.choice([(["r"], ["s"]), (["r"], ["s", "t"]), (["r"], ["s"], ["t"]), (["t"], ["r"], [], ["s"])])
        walkers = sorted(sum(shares, []))
        sides = []
        for at, residents in enumerate(shares):
            outsiders = [walker for walker in walkers if walker not in residents]
            if len(outsiders) > 2:
                continue
            sides.append(random_side(rng, walkers, outsiders, ("abm", "cm", "dm", "em")[at], "pqxy"[at], "uvwn"[at], hours, 3))
        return sides

    def joined(self, sides):
        book = sides[0]
        for side in sides[1:]:
            book = book + side
        return book.book

    def test_the_joined_book(self):
        rng = random.Random(12)
        found = []
        for _ in range(500):
            sides = self.sides(rng)
            faces = [face(side) for side in sides]
            try:
                book = self.joined(sides)
            except (TooMany, Clash):
                continue
            if len(book.meadow.walkers) != len([walker for one in faces for walker in one.residents]):
                continue
            fits = some_day_fits(book)
            self.assertIs(faces_fit(*faces), fits)
            found.append(fits)
            if not any(note[0] == "away" and note[2] == book.home(note[1]) == "m" for note in book):
                swept = sweep(book)
                self.assertEqual(coming_hours(*faces), {walker: latest_near(swept, walker, "m") for walker in book.meadow.walkers})
        self.assertGreater(min(found.count(True), found.count(False)), 80)

    def test_steps_of_coming_hours(self):
        """Each number is replaced by the coming hour under the numbers ahead, all at once, until nothing changes."""
        rng = random.Random(13)
        for _ in range(200):
            faces = [face(side) for side in self.sides(rng)]
            walkers = faces[0].walkers
            if sorted(walker for one in faces for walker in one.residents) == list(walkers):
                numbers, after = None, {walker: 0 for walker in walkers}
                while numbers != after:
                    numbers, after = after, {}
                    for one in faces:
                        after.update(one.coming({walker: numbers[walker] for walker in one.outsiders}))
                self.assertEqual(coming_hours(*faces), numbers)
                self.assertIs(faces_fit(*faces), all(one.ok({name: numbers[name] for name in one.outsiders}) for one in faces))


if __name__ == "__main__":
    unittest.main()
