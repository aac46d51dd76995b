"""Sides and how they are joined: points 53 and 54, and tallgrass/sides/side.py."""

import itertools
import unittest

from helpers import GrassCase
from tallgrass.base.errors import BadNote, BadPlacing, Clash, TooMany, Twice, Unknown
from tallgrass.field.meadow import OLD, Meadow
from tallgrass.notes.book import Book
from tallgrass.sides.side import Side
from tallgrass.sweep.papers import some_day_fits

WALKERS = ["r", "s", "t"]
LEFT = Meadow(2, ["a", "m"], WALKERS, [("p", "a", "m")], gates=[("s", "p", 1), ("t", "p", 0)], signs=[("u", ["r", "s"], ["p"])])
RIGHT = Meadow(2, ["m", "z"], WALKERS, [("q", "m", "z")], gates=[("r", "q", 1)], signs=[("v", ["s"], ["q"]), ("w", ["t"], ["q"])])
FAR = Meadow(2, ["k", "m"], WALKERS, [("o", "k", "m")], gates=[("s", "o", 0)])
LEFT_NOTES = [("shows", "u", [(1, "s", "p", "m")]), ("on", "s", "p", 1), ("start", "r", ["a", "m"]), ("at", "r", "m", 2),
              ("start", "s", ["a"]), ("at", "s", "a", 1)]
RIGHT_NOTES = [("later", "v", "w"), ("off", "r", "q", 2), ("away", "s", "m", 2), ("at", "r", "z", 1)]
FAR_NOTES = [("away", "s", "k", 1), ("start", "t", ["k", "m"])]


def left(*notes):
    return Side(Book(LEFT, {"r": "a", "s": "m", "t": "m"}, *notes), "m", ["t", "s"])


def right(*notes):
    return Side(Book(RIGHT, {"r": "m", "s": "z", "t": "m"}, *notes), "m", ["r", "t"])


def far(*notes):
    return Side(Book(FAR, {"r": "m", "s": "m", "t": "k"}, *notes), "m", ["r", "s"])


class Sides(GrassCase):
    def test_attributes(self):
        side = left(*LEFT_NOTES)
        self.assertEqual(side.book, Book(LEFT, {"r": "a", "s": "m", "t": "m"}, *LEFT_NOTES))
        self.assertEqual((side.place, side.outsiders, side.residents), ("m", ("s", "t"), ("r",)))
        self.assertEqual((right().outsiders, right().residents), (("r", "t"), ("s",)))

    def test_nobody_or_everybody_is_an_outsider(self):
        side = Side(Book(LEFT, {"r": "a", "s": "m", "t": "m"}, ("at", "s", "m", 1)), "a", [])
        self.assertEqual((side.place, side.outsiders, side.residents), ("a", (), ("r", "s", "t")))
        side = Side(Book(LEFT, {"r": "m", "s": "m", "t": "m"}), "m", ("t", "r", "s"))
        self.assertEqual((side.outsiders, side.residents), (("r", "s", "t"), ()))

    def test_the_order_of_the_checks(self):
        bad = Book(LEFT, {"r": "a", "s": "a", "t": "m"}, ("at", "t", "m", 1))
        self.check_error(Unknown, "z", Side, bad, "z", ["x", "x"])
        self.check_error(Unknown, "p", Side, bad, "p", ["x", "x"])
        self.check_error(Unknown, "x", Side, bad, "m", ["s", "x", "s"])
        self.check_error(Twice, "s", Side, bad, "m", ["s", "s", "x"])
        self.check_error(BadPlacing, "s", Side, bad, "m", ["t", "s"])
        self.check_error(BadPlacing, "r", Side, bad, "m", ["t", "s", "r"])
        self.check_error(BadNote, ("at", "t", "m", 1), Side, bad, "m", ["t"])

    def test_notes_that_name_the_place(self):
        homes = {"r": "a", "s": "m", "t": "m"}
        for note in (("start", "s", ("m",)), ("start", "s", ("a", "m")), ("at", "s", "m", 1), ("away", "t", "m", 2)):
            self.check_error(BadNote, note, left, note)
            Side(Book(LEFT, homes, note), "m", [])
        self.check_error(BadNote, ("at", "s", "m", 2), left, ("start", "s", ["m"]), ("away", "t", "m", 1), ("at", "s", "m", 2))
        self.check_error(BadNote, ("away", "s", "m", 2), left, ("away", "t", "m", 1), ("away", "s", "m", 2))

    def test_notes_that_may_stand(self):
        for note in (("start", "s", ("a",)), ("start", "s", ()), ("at", "s", "a", 1), ("away", "t", "a", 2), ("on", "s", "p", 1),
                     ("off", "t", "p", 1), ("shows", "u", ()), ("at", "r", "m", 1), ("away", "r", "m", 1),
                     ("start", "r", ("m",))):
            self.assertEqual(left(note).book.notes, (note,))

    def test_names_in_several_groups(self):
        meadow = Meadow(1, ["m", "s"], ["s", "r"], [("m", "m", "s")], signs=[("s", ["r"], ["m"]), ("m", ["s"], ["m"])])
        notes = [("later", "s", "m"), ("nolater", "s", "m"), ("on", "s", "m", 1), ("off", "s", "m", 1), ("shows", "s", [OLD])]
        side = Side(Book(meadow, {"r": "s", "s": "m"}, *notes), "m", ["s"])
        self.assertEqual(len(side.book), 5)


class Joined(GrassCase):
    def check_clash(self, side, other):
        self.check_error(Clash, None, lambda: side + other)
        self.check_error(Clash, None, lambda: other + side)

    def test_two_sides(self):
        side = left(*LEFT_NOTES) + right(*RIGHT_NOTES)
        self.assertIsInstance(side, Side)
        meadow = Meadow(2, ["a", "m", "z"], WALKERS, [("p", "a", "m"), ("q", "m", "z")],
                        gates=[("s", "p", 1), ("t", "p", 0), ("r", "q", 1)],
                        signs=[("u", ["r", "s"], ["p"]), ("v", ["s"], ["q"]), ("w", ["t"], ["q"])])
        self.assertEqual(side.book.meadow, meadow)
        self.assertEqual(side.book, Book(meadow, {"r": "a", "s": "z", "t": "m"}, *LEFT_NOTES, *RIGHT_NOTES))
        self.assertEqual((side.place, side.outsiders, side.residents), ("m", ("t",), ("r", "s")))

    def test_the_sides_stay(self):
        one, two = left(*LEFT_NOTES), right(*RIGHT_NOTES)
        one + two
        self.assertEqual((one.outsiders, one.book), (("s", "t"), left(*LEFT_NOTES).book))
        self.assertEqual((two.outsiders, two.book), (("r", "t"), right(*RIGHT_NOTES).book))

    def test_three_sides_in_every_order(self):
        sides = [left(*LEFT_NOTES), right(*RIGHT_NOTES), far(*FAR_NOTES)]
        for one, two, three in itertools.permutations(sides):
            for side in ((one + two) + three, one + (two + three)):
                self.assertEqual(side.book.meadow.places, ("a", "k", "m", "z"))
                self.assertEqual(side.book.meadow.gates, (("r", "q", 1), ("s", "o", 0), ("s", "p", 1), ("t", "p", 0)))
                self.assertEqual(side.book.homes(), {"r": "a", "s": "z", "t": "k"})
                self.assertEqual(side.book, ((sides[0] + sides[1]) + sides[2]).book)
                self.assertEqual(len(side.book), 12)
                self.assertEqual((side.place, side.outsiders, side.residents), ("m", (), ("r", "s", "t")))

    def test_residents_of_neither(self):
        both = Side(Book(LEFT, {"r": "m", "s": "m", "t": "m"}), "m", WALKERS)
        side = both + right()
        self.assertEqual((side.outsiders, side.residents), (("r", "t"), ("s",)))
        self.assertEqual(side.book.homes(), {"r": "m", "s": "z", "t": "m"})

    def test_residents_at_the_place(self):
        one = Side(Book(LEFT, {"r": "m", "s": "m", "t": "m"}, ("at", "r", "m", 1), ("start", "r", ["m"])), "m", ["s", "t"])
        side = one + right()
        self.assertEqual((side.book.home("r"), side.outsiders, len(side.book)), ("m", ("t",), 2))

    def test_a_joined_book(self):
        by_s = ("shows", "u", [(1, "s", "p", "m")])
        self.assertTrue(some_day_fits((left(by_s) + right()).book))
        self.assertFalse(some_day_fits((left(by_s) + right(("off", "s", "q", 1))).book))

    def changed(self, hours=2, walkers=("r", "s", "t"), places=("m", "z"), path="q", sign="v", place="m", outsiders=("r", "t"),
                notes=()):
        """A side like the right one with something else in it."""
        meadow = Meadow(hours, places, walkers, [(path, *places[:2])], signs=[(sign, ["s"], [path])])
        homes = {walker: place if walker in outsiders else places[-1] for walker in walkers}
        return Side(Book(meadow, homes, *notes), place, [walker for walker in outsiders if walker in walkers])

    def test_what_may_differ(self):
        self.assertEqual((left() + self.changed()).outsiders, ("t",))
        self.assertEqual((left() + self.changed(notes=[("start", "t", ["z"])])).book.notes, (("start", "t", ("z",)),))

    def test_clash(self):
        for changes in ({"hours": 3}, {"walkers": ("r", "s")}, {"walkers": ("r", "s", "o")}, {"place": "z", "outsiders": ()},
                        {"place": "z"}, {"places": ("m", "z", "a")}, {"path": "p"}, {"sign": "u"}, {"outsiders": ("t",)},
                        {"outsiders": ()}):
            self.check_clash(left(), self.changed(**changes))

    def test_another_common_place(self):
        first = Side(Book(LEFT, {"r": "a", "s": "m", "t": "m"}), "m", ["s", "t"])
        second = Side(Book(Meadow(2, ["b", "m"], WALKERS, []), {"r": "b", "s": "m", "t": "b"}), "b", ["r", "t"])
        self.check_clash(first, second)

    def test_starts_of_the_same_walker(self):
        self.check_clash(left(("start", "s", ["a"])), right(("start", "s", ["z"])))
        self.check_clash(left(("start", "t", ["a"])), right(("start", "t", ["z"])))
        self.check_clash(left(("start", "r", ["a", "m"])), right(("start", "r", [])))
        side = left(("start", "s", ["a"]), ("start", "r", ["a"])) + right(("start", "t", ["z"]))
        self.assertEqual(len(side.book), 3)
        side = left(("at", "s", "a", 1), ("start", "r", ["a"])) + right(("start", "s", ["m"]), ("at", "r", "z", 1))
        self.assertEqual(len(side.book), 4)

    def test_a_side_with_itself(self):
        self.check_clash(left(), left())


class TooManyOfThem(GrassCase):
    def side(self, name, places=0, paths=0, signs=0, notes=0, resident=""):
        """A side with so many places beside the common one, so many paths and so on, with names of its own."""
        names = ["m"] + [f"{name}{at}" for at in range(places)]
        rows = [(f"{name}{at}", names[0], names[1]) for at in range(paths)]
        meadow = Meadow(6, names, ["r", "s"], rows, signs=[(f"{name}{at}", ["r"], [rows[0][0]]) for at in range(signs)])
        told = [(word, "r", path, hour) for path, *_ in rows for hour in range(1, 7) for word in ("on", "off")]
        outsiders = [walker for walker in "rs" if walker != resident]
        return Side(Book(meadow, {"r": "m", "s": "m"}, *told[:notes]), "m", outsiders)

    def check_join(self, first, second, most=None):
        sides = self.side("a", **first, resident="r"), self.side("b", **second, resident="s")
        for one, two in (sides, sides[::-1]):
            if most is None:
                self.assertEqual((one + two).residents, ("r", "s"))
            else:
                self.check_error(TooMany, most, lambda: one + two)

    def test_places(self):
        self.check_join({"places": 3}, {"places": 3})
        self.check_join({"places": 4}, {"places": 3}, 7)
        self.check_join({"places": 6}, {})
        self.check_join({"places": 6}, {"places": 1}, 7)

    def test_paths(self):
        self.check_join({"places": 1, "paths": 4}, {"places": 1, "paths": 5})
        self.check_join({"places": 1, "paths": 5}, {"places": 1, "paths": 5}, 9)

    def test_signs(self):
        self.check_join({"places": 1, "paths": 1, "signs": 5}, {"places": 1, "paths": 1, "signs": 4})
        self.check_join({"places": 1, "paths": 1, "signs": 5}, {"places": 1, "paths": 1, "signs": 5}, 9)

    def test_notes(self):
        self.check_join({"places": 1, "paths": 1, "notes": 10}, {"places": 1, "paths": 1, "notes": 10})
        self.check_join({"places": 1, "paths": 1, "notes": 11}, {"places": 1, "paths": 1, "notes": 10}, 20)

    def test_the_order(self):
        much = {"places": 4, "paths": 5, "signs": 5, "notes": 12}
        self.check_join(much, {**much, "places": 3}, 7)
        self.check_join({**much, "places": 1}, {**much, "places": 3}, 9)
        self.check_join({**much, "places": 1, "paths": 4}, {**much, "places": 3}, 9)
        self.check_join({**much, "places": 1, "paths": 4, "signs": 3}, {**much, "places": 3}, 20)

    def test_clash_first(self):
        for one, two in (("r", "r"), ("s", "s")):
            first, second = (self.side(name, 4, 5, 5, 12, resident) for name, resident in (("a", one), ("b", two)))
            self.check_error(Clash, None, lambda: first + second)


if __name__ == "__main__":
    unittest.main()
