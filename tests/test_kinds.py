"""The eight kinds of notes: points 16 to 19 and tallgrass/notes/kinds.py."""

import unittest

from helpers import GrassCase, all_days, line_meadow, small_meadows
from tallgrass.base.errors import BadMark, BadNote, BadNumber, Unknown
from tallgrass.field.days import Day
from tallgrass.field.meadow import OLD, Meadow
from tallgrass.notes.kinds import holds, marks_where, normal_note, opposite

MEADOW = Meadow.grassy(3, ["a", "b", "c"], ["r", "s"], [("p", "a", "b"), ("q", "b", "c")])
DAY = Day(MEADOW, {"r": "a", "s": "c"},
          [(1, "r", "p", "b"), (2, "r", "q", "c"), (2, "s", "q", "b"), (2, "r", "q", "b")])
A_DAY = Day(line_meadow(), {"r": "a", "s": "a"}, [])


def every_note(meadow):
    """Notes of all eight kinds, with all names and hours, and some marks and places."""
    notes = []
    for sign, *_ in meadow.signs:
        marks = meadow.all_marks(sign)
        notes += [("shows", sign, marks[at:upto]) for at in (0, 1, 3) for upto in (0, 2, 5, len(marks))]
        notes += [(word, sign, other[0]) for word in ("later", "nolater") for other in meadow.signs if other[0] != sign]
    for walker in meadow.walkers:
        notes += [("start", walker, meadow.places[at:upto]) for at in (0, 1) for upto in (0, 1, 2, 3)]
        for hour in range(1, meadow.hours + 1):
            notes += [(word, walker, place, hour) for word in ("at", "away") for place in meadow.places]
            notes += [(word, walker, path[0], hour) for word in ("on", "off") for path in meadow.paths]
    return notes


class Holding(GrassCase):
    def check_holding(self, note, expected):
        self.assertIs(holds(DAY, note), expected, note)
        self.assertIs(holds(DAY, opposite(MEADOW, note)), not expected, note)

    def test_shows(self):
        self.check_holding(("shows", "p", [(1, "r", "p", "b")]), True)
        self.check_holding(("shows", "p", [OLD, (1, "r", "p", "a")]), False)
        self.check_holding(("shows", "q", [OLD, (2, "r", "q", "b")]), True)
        self.check_holding(("shows", "q", []), False)
        self.assertTrue(holds(A_DAY, ("shows", "p", [OLD])))

    def test_start(self):
        self.check_holding(("start", "r", ["b", "a"]), True)
        self.check_holding(("start", "r", ["b", "c"]), False)
        self.check_holding(("start", "r", []), False)

    def test_at_and_away(self):
        for place, last in (("a", 1), ("b", 3), ("c", 2)):
            for hour in (1, 2, 3):
                self.check_holding(("at", "r", place, hour), hour <= last)
                self.check_holding(("away", "r", place, hour), hour > last)
        for place, last in (("a", 0), ("b", 3), ("c", 2)):
            for hour in (1, 2, 3):
                self.check_holding(("at", "s", place, hour), hour <= last)

    def test_a_place_that_is_left_by_another_path(self):
        meadow = Meadow.grassy(2, ["a", "b"], ["r"], [("p", "a", "b"), ("q", "a", "b")])
        day = Day(meadow, {"r": "b"}, [(1, "r", "p", "a"), (2, "r", "q", "b")])
        self.assertTrue(holds(day, ("at", "r", "a", 2)))
        self.assertFalse(holds(day, ("on", "r", "p", 2)))

    def test_on_and_off(self):
        for path, last in (("p", 1), ("q", 2)):
            for hour in (1, 2, 3):
                self.check_holding(("on", "r", path, hour), hour <= last)
                self.check_holding(("off", "r", path, hour), hour > last)
        self.check_holding(("on", "s", "p", 1), False)

    def test_later_and_nolater(self):
        self.check_holding(("later", "q", "p"), True)
        self.check_holding(("later", "p", "q"), False)
        self.check_holding(("nolater", "p", "q"), True)
        self.check_holding(("nolater", "q", "p"), False)

    def test_later_with_untouched_signs_and_one_last_going(self):
        meadow = Meadow(1, ["a", "b"], ["r"], [("p", "a", "b"), ("q", "a", "b")],
                        signs=[("t", ["r"], ["q"]), ("u", ["r"], ["p"]), ("v", ["r"], ["p", "q"]), ("w", ["r"], ["q"])])
        day = Day(meadow, {"r": "a"}, [(1, "r", "p", "b")])
        for sign, other, later in (("u", "v", False), ("v", "u", False), ("t", "w", False), ("u", "w", True),
                                   ("w", "u", False), ("v", "w", True)):
            self.assertIs(holds(day, ("later", sign, other)), later)
            self.assertIs(holds(day, ("nolater", sign, other)), not later)

    def test_just_one_of_a_note_and_its_opposite(self):
        for meadow in small_meadows():
            notes = [(note, opposite(meadow, note)) for note in every_note(meadow)]
            for day in all_days(meadow, 2)[::7]:
                for note, other in notes:
                    self.assertIsNot(holds(day, note), holds(day, other), (note, list(day)))

    def test_errors_of_holds(self):
        self.check_error(BadNote, ("at",), holds, DAY, ("at",))
        self.check_error(BadNumber, 4, holds, DAY, ("at", "r", "a", 4))
        self.check_error(BadMark, (3, "r", "p", "c"), holds, DAY, ("shows", "p", [(3, "r", "p", "c")]))


class Normal(GrassCase):
    def test_ascending_without_duplicates(self):
        marks = [(2, "r", "p", "a"), OLD, (1, "s", "p", "b"), (2, "r", "p", "a"), OLD]
        expected = ("shows", "p", (OLD, (1, "s", "p", "b"), (2, "r", "p", "a")))
        for given in (marks, tuple(marks), marks[::-1]):
            self.assertEqual(normal_note(MEADOW, ("shows", "p", given)), expected)
        self.assertEqual(normal_note(MEADOW, ("start", "r", ["c", "a", "c"])), ("start", "r", ("a", "c")))
        self.assertEqual(normal_note(MEADOW, ("start", "r", [])), ("start", "r", ()))
        self.assertEqual(normal_note(MEADOW, ("shows", "p", [])), ("shows", "p", ()))

    def test_the_same_tuple(self):
        for note in every_note(MEADOW):
            self.assertEqual(normal_note(MEADOW, note), note)
            self.assertIsInstance(normal_note(MEADOW, note), tuple)

    def test_nothing_given_is_modified(self):
        marks, places = [(2, "r", "p", "a"), OLD], ["c", "a"]
        for call in (normal_note, opposite, lambda _, note: holds(DAY, note)):
            call(MEADOW, ("shows", "p", marks))
            call(MEADOW, ("start", "r", places))
        self.assertEqual((marks, places), ([(2, "r", "p", "a"), OLD], ["c", "a"]))

    def check_bad(self, error, field, note):
        for call in (normal_note, opposite):
            self.check_error(error, field, call, MEADOW, note)
        self.check_error(error, field, holds, DAY, note)

    def test_words_and_sizes(self):
        for note in ((), ("x",), ("",), ("Shows", "p", []), (3, "p", []), ("show", "p", []), (("at",), "r", "a", 1),
                     ("shows",), ("shows", "x"), ("shows", "x", [], 1), ("start", "x"), ("start", "x", [], 1),
                     ("at", "x", "y"), ("at", "x", "y", 9, 9), ("away", "x", "y"), ("on", "x", "y"), ("off", "x", "y"),
                     ("on", "x", "y", 1, 1), ("later", "x"), ("later", "x", "y", "z"), ("nolater", "x"), (None,)):
            self.check_bad(BadNote, note, note)

    def test_from_left_to_right(self):
        self.check_bad(Unknown, "x", ("shows", "x", [()]))
        self.check_bad(Unknown, "x", ("start", "x", ["y"]))
        for word in ("at", "away"):
            self.check_bad(Unknown, "x", (word, "x", "y", 9))
            self.check_bad(Unknown, "y", (word, "r", "y", 9))
            self.check_bad(Unknown, "p", (word, "r", "p", 1))
            self.check_bad(Unknown, "p", (word, "p", "a", 1))
        for word in ("on", "off"):
            self.check_bad(Unknown, "x", (word, "x", "y", 9))
            self.check_bad(Unknown, "y", (word, "r", "y", 9))
            self.check_bad(Unknown, "a", (word, "r", "a", 1))
        for word in ("at", "away", "on", "off"):
            for hour in (0, 4, -1):
                name = "a" if word in ("at", "away") else "p"
                self.check_bad(BadNumber, hour, (word, "r", name, hour))
        for word in ("later", "nolater"):
            self.check_bad(Unknown, "x", (word, "x", "x"))
            self.check_bad(Unknown, "x", (word, "p", "x"))
            self.check_bad(Unknown, "a", (word, "a", "p"))
            self.check_bad(BadNote, (word, "p", "p"), (word, "p", "p"))

    def test_marks_and_places(self):
        for mark in ((), (1,), (0, "r", "p", "a"), (4, "r", "p", "a"), (1, "x", "p", "a"), (1, "r", "q", "b"),
                     (1, "r", "p", "c"), (1, "r", "p", "a", "b"), (1, "r", "p"), (0, "", ""), "old", ("1", "r", "p", "a")):
            self.check_bad(BadMark, mark, ("shows", "p", [OLD, mark, (9,)]))
        for place in ("x", "r", "p", ""):
            self.check_bad(Unknown, place, ("start", "r", ["a", place, "y"]))

    def test_marks_behind_a_gate(self):
        meadow = Meadow(3, ["a", "b"], ["r"], [("p", "a", "b")], gates=[("r", "p", 2)], signs=[("u", ["r"], ["p"])])
        normal_note(meadow, ("shows", "u", [(2, "r", "p", "a")]))
        self.check_error(BadMark, (3, "r", "p", "a"), normal_note, meadow, ("shows", "u", [(3, "r", "p", "a")]))

    def test_the_field_is_the_argument(self):
        note = ("shows", "p", [OLD], 3)
        with self.assertRaises(BadNote) as caught:
            normal_note(MEADOW, note)
        self.assertIs(caught.exception.note, note)


class Opposites(GrassCase):
    def test_each_kind(self):
        meadow = Meadow.grassy(1, ["a", "b"], ["r"], [("p", "a", "b"), ("q", "a", "b")])
        for note, other in [
                (("shows", "p", [(1, "r", "p", "b")]), ("shows", "p", (OLD, (1, "r", "p", "a")))),
                (("shows", "p", ()), ("shows", "p", meadow.all_marks("p"))),
                (("start", "r", ["b", "b"]), ("start", "r", ("a",))), (("start", "r", []), ("start", "r", ("a", "b"))),
                (("at", "r", "a", 1), ("away", "r", "a", 1)), (("on", "r", "p", 1), ("off", "r", "p", 1)),
                (("later", "p", "q"), ("nolater", "p", "q"))]:
            self.assertEqual(opposite(meadow, note), other)
            self.assertEqual(opposite(meadow, other), normal_note(meadow, note))

    def test_the_opposite_of_the_opposite(self):
        for meadow in small_meadows():
            for note in every_note(meadow):
                self.assertEqual(opposite(meadow, opposite(meadow, note)), normal_note(meadow, note))


class Limits(GrassCase):
    def test_no_limit(self):
        self.assertEqual(marks_where(MEADOW, "p"), MEADOW.all_marks("p")[1:])

    def test_each_limit(self):
        goings = MEADOW.all_marks("p")[1:]
        for at, word, value in ((1, "walker", "r"), (2, "path", "p"), (3, "place", "b")):
            self.assertEqual(marks_where(MEADOW, "p", **{word: value}),
                             tuple(going for going in goings if going[at] == value))
        for hour in range(-1, 6):
            self.assertEqual(marks_where(MEADOW, "p", first=hour), tuple(going for going in goings if going[0] >= hour))
            self.assertEqual(marks_where(MEADOW, "p", last=hour), tuple(going for going in goings if going[0] <= hour))

    def test_limits_together(self):
        self.assertEqual(marks_where(MEADOW, "p", walker="s", place="a", first=2, last=3),
                         ((2, "s", "p", "a"), (3, "s", "p", "a")))
        self.assertEqual(marks_where(MEADOW, "p", first=3, last=2), ())

    def test_the_old_mark(self):
        self.assertEqual(marks_where(MEADOW, "p", old=True), MEADOW.all_marks("p"))
        self.assertEqual(marks_where(MEADOW, "p", old=False), MEADOW.all_marks("p")[1:])
        self.assertEqual(marks_where(MEADOW, "p", old=True, walker="r", first=3, place="a"), (OLD, (3, "r", "p", "a")))
        self.assertEqual(marks_where(MEADOW, "p", old=True, walker="x"), (OLD,))
        self.assertEqual(marks_where(MEADOW, "p", first=0, last=0), ())

    def test_values_that_no_mark_has(self):
        for limits in ({"walker": "x"}, {"walker": ""}, {"path": "q"}, {"place": "c"}, {"place": "x"}, {"first": 4},
                       {"last": 0}, {"path": "", "place": ""}):
            self.assertEqual(marks_where(MEADOW, "p", **limits), ())

    def test_errors(self):
        self.check_error(Unknown, "x", marks_where, MEADOW, "x", hour=3)
        self.check_error(Unknown, "hour", marks_where, MEADOW, "p", hour=3)
        self.check_error(Unknown, "a", marks_where, MEADOW, "p", z=1, walker="r", a=1, old=True)
        self.check_error(Unknown, "Old", marks_where, MEADOW, "p", Old=True)


if __name__ == "__main__":
    unittest.main()
