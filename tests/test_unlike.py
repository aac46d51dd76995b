"""Equal faces and sides told apart: points 58 and 59, and tallgrass/sides/unlike.py."""

import itertools
import random
import unittest

from helpers import GrassCase, all_at, meadow_of
from samples import random_side
from tallgrass.base.errors import Clash, TooLarge, TooMany
from tallgrass.field.meadow import OLD, Meadow
from tallgrass.notes.book import Book
from tallgrass.sides.face import face
from tallgrass.sides.side import Side
from tallgrass.sides.unlike import parting_side, same_face
from tallgrass.sweep.papers import some_day_fits

LEFT = Meadow.grassy(2, ["a", "m"], ["r", "s"], [("p", "a", "m")])
GROUPS = [(["r"], []), (["r"], ["r"]), (["r", "s"], ["s"]), (["r", "s"], []), (["r", "s"], ["s", "r"]), (["r", "s", "t"], ["t", "r"]),
          (["r", "s", "t"], ["s"])]


def left(*notes, meadow=LEFT):
    return Side(Book(meadow, {"r": "a", "s": "m"}, *notes), "m", ["s"])


def at_m(hours=2, places=("m",), walkers=("r", "s"), outsiders=("s",), place="m"):
    """A side without paths and notes."""
    meadow = Meadow(hours, list(places), list(walkers), [])
    return Side(Book(meadow, all_at(meadow, place)), place, list(outsiders))


def are_same(first, second):
    """Whether two faces are the same, by the words."""
    for arrivals in itertools.product(range(first.hours + 1), repeat=len(first.outsiders)):
        told = dict(zip(first.outsiders, arrivals))
        if first.ok(told) != second.ok(told):
            return False
        for walker in first.residents:
            for hour in range(1, first.hours + 1):
                raised = {name: max(told[name], hour) for name in told}
                good = [one.coming(told)[walker] >= hour and one.ok(raised) for one in (first, second)]
                if good[0] != good[1]:
                    return False
    return True


def pairs(count, seed, **named):
    rng = random.Random(seed)
    found = []
    for _ in range(count):
        group, hours = rng.choice(GROUPS), rng.randint(1, 3)
        found.append(tuple(random_side(rng, *group, hours=hours, **named) for _ in range(2)))
    return found


class Same(GrassCase):
    def test_itself(self):
        for side in (left(), left(("shows", "p", [(1, "s", "p", "m")])), left(("start", "r", [])), at_m()):
            self.assertIs(same_face(face(side), face(side)), True)

    def test_a_note_that_makes_no_difference(self):
        self.assertIs(same_face(face(left()), face(left(("at", "r", "a", 2)))), True)
        self.assertIs(same_face(face(left()), face(left(("start", "r", ["a", "m"])))), True)
        seen = ("shows", "p", [(1, "s", "p", "m")])
        self.assertIs(same_face(face(left(seen)), face(left(seen, ("on", "s", "p", 1)))), True)

    def test_another_meadow(self):
        other = Meadow(2, ["k", "m"], ["r", "s"], [("x", "k", "m"), ("y", "m", "k")])
        side = Side(Book(other, {"r": "k", "s": "m"}), "m", ["s"])
        self.assertIs(same_face(face(left()), face(side)), True)
        self.assertIs(same_face(face(left()), face(at_m())), True)

    def test_other_numbers_of_sides_that_are_never_good(self):
        first, second = left(("start", "r", [])), left(("start", "r", []), ("off", "r", "p", 1))
        self.assertNotEqual(face(first).rows, face(second).rows)
        self.assertIs(same_face(face(first), face(second)), True)

    def test_other_arrivals_are_good(self):
        first, second = left(("on", "s", "p", 1)), left(("on", "s", "p", 2))
        self.assertIs(same_face(face(first), face(second)), False)
        self.assertIs(same_face(face(left()), face(second)), False)

    def test_other_coming_hours(self):
        self.assertIs(same_face(face(left()), face(left(("off", "r", "p", 2)))), False)
        self.assertIs(same_face(face(left(("off", "r", "p", 2))), face(left(("off", "r", "p", 1)))), False)
        nobody = Side(left().book, "m", []), Side(left(("off", "r", "p", 2)).book, "m", [])
        self.assertIs(same_face(face(nobody[0]), face(nobody[1])), False)

    def test_a_raised_number_turns_a_side_good(self):
        """The coming hours differ only where neither is good, but would be with what comes of them."""
        away = ("on", "s", "p", 1)
        first, second = left(away), left(away, ("shows", "p", [(1, "s", "p", "m"), (2, "s", "p", "m"), (1, "s", "p", "a")]))
        rows = [face(side).rows for side in (first, second)]
        self.assertEqual(rows[0], (((0,), False, (2,)), ((1,), True, (2,)), ((2,), True, (2,))))
        self.assertEqual(rows[1], (((0,), False, (0,)), ((1,), True, (1,)), ((2,), True, (2,))))
        self.assertIs(same_face(face(first), face(second)), False)
        late = ("on", "s", "p", 2)
        first, second = left(late), left(late, ("off", "r", "p", 2))
        self.assertEqual([row[1] for row in face(first).rows], [row[1] for row in face(second).rows])
        self.assertIs(same_face(face(first), face(second)), False)

    def test_only_a_raised_number_shows_the_difference(self):
        """The coming hours differ only where nobody arrives and neither side is good."""
        first, second = self.late_ones()
        self.assertEqual(face(first).rows, (((0,), False, (1,)), ((1,), True, (1,)), ((2,), True, (1,))))
        self.assertEqual(face(second).rows, (((0,), False, (0,)), ((1,), True, (1,)), ((2,), True, (1,))))
        self.assertIs(same_face(face(first), face(second)), False)
        third = parting_side(first, second)
        self.assertEqual([some_day_fits((side + third).book) for side in (first, second)], [True, False])

    def late_ones(self):
        meadow = Meadow.grassy(2, ["a", "b", "m"], ["r", "s"], [("p", "a", "m"), ("q", "b", "m")])
        notes = [("off", "r", "p", 2), ("on", "s", "q", 1)]
        return left(*notes, meadow=meadow), left(*notes, ("shows", "p", [(1, "s", "p", "m")]), meadow=meadow)

    def test_a_difference_that_does_not_count(self):
        """A resident comes later under some arrival hours, but the side is good under none that it could bring about."""
        late = ("on", "s", "p", 2)
        meadow = Meadow.grassy(2, ["a", "b", "m"], ["r", "s"], [("o", "b", "m"), ("p", "a", "m")])
        first = left(late, ("off", "r", "o", 1), meadow=meadow)
        second = left(late, ("off", "r", "o", 1), ("shows", "o", [(1, "s", "o", "m"), OLD]), meadow=meadow)
        self.assertIs(same_face(face(first), face(second)), True)
        only = ("shows", "p", [(2, "s", "p", "m")])
        first, second = left(only), left(only, ("off", "r", "p", 2))
        self.assertNotEqual(face(first).rows, face(second).rows)
        self.assertIs(same_face(face(first), face(second)), False)

    def test_the_words(self):
        answers = []
        for first, second in pairs(400, 21):
            same = same_face(face(first), face(second))
            self.assertIs(same, are_same(face(first), face(second)))
            self.assertIs(same, same_face(face(second), face(first)))
            answers.append((same, face(first).rows == face(second).rows))
        for answer in ((True, True), (True, False), (False, False)):
            self.assertGreater(answers.count(answer), 20)
        self.assertNotIn((False, True), answers)

    def test_clash(self):
        one = face(at_m())
        for other in (at_m(hours=3), at_m(walkers=("r", "s", "t")), at_m(walkers=("q", "s")), at_m(outsiders=()),
                      at_m(outsiders=("r",)), at_m(outsiders=("s", "r"))):
            self.check_error(Clash, None, same_face, one, face(other))
            self.check_error(Clash, None, same_face, face(other), one)
        self.assertIs(same_face(one, face(at_m(places=("k",), place="k"))), True)


class Parting(GrassCase):
    def check_third(self, first, second):
        """A third side that parts the two, or none if their faces are the same; what it has notes for is returned."""
        third = parting_side(first, second)
        if same_face(face(first), face(second)):
            self.assertIsNone(third)
            return None
        self.assertIsInstance(third, Side)
        self.assertEqual((third.place, third.residents, third.outsiders), (first.place, first.outsiders, first.residents))
        books = [(side + third).book for side in (first, second)]
        self.assertEqual([some_day_fits(book) for book in books].count(True), 1)
        meadow = third.book.meadow
        self.assertEqual((len(meadow.places), len(meadow.paths) <= 3, len(meadow.signs) <= 1), (2, True, True))
        for walker in third.residents:
            self.assertNotEqual(third.book.home(walker), third.place)
        return len(third.book)

    def test_other_arrivals_are_good(self):
        self.assertEqual(self.check_third(left(("on", "s", "p", 1)), left(("on", "s", "p", 2))), 0)
        self.assertEqual(self.check_third(left(("on", "s", "p", 2)), left()), 0)
        self.assertEqual(self.check_third(left(), left(("start", "r", []))), 0)

    def test_other_coming_hours(self):
        self.assertEqual(self.check_third(left(), left(("off", "r", "p", 2))), 1)
        self.assertEqual(self.check_third(left(("off", "r", "p", 2)), left()), 1)
        late = ("on", "s", "p", 2)
        self.assertEqual(self.check_third(left(late), left(late, ("off", "r", "p", 2))), 1)

    def test_no_outsiders(self):
        free = at_m(outsiders=())
        gone = Meadow(2, ["a", "m"], ["r", "s"], [])
        other = Side(Book(gone, {"r": "a", "s": "m"}), "m", [])
        self.assertEqual(self.check_third(free, other), 1)
        self.assertEqual(self.check_third(free, Side(Book(gone, {"r": "m", "s": "m"}, ("start", "r", [])), "m", [])), 0)
        self.assertIsNone(self.check_third(free, Side(Book(gone, {"r": "m", "s": "m"}), "m", [])))

    def test_no_residents(self):
        nobody = at_m(outsiders=("r", "s"))
        meadow = Meadow(2, ["k", "m"], ["r", "s"], [("p", "k", "m")])
        for note in (("on", "s", "p", 2), ("on", "r", "p", 1)):
            self.assertEqual(self.check_third(nobody, Side(Book(meadow, all_at(meadow, "m"), note), "m", ["r", "s"])), 0)

    def test_the_same_face(self):
        self.assertIsNone(parting_side(left(), left(("at", "r", "a", 2))))
        self.assertIsNone(parting_side(left(("start", "r", [])), left(("start", "r", []), ("off", "r", "p", 1))))

    def test_random_sides(self):
        found = [self.check_third(first, second) for first, second in pairs(400, 22)]
        for answer in (None, 0, 1):
            self.assertGreater(found.count(answer), 20)

    def test_names_that_new_ones_might_have(self):
        """Both sides have the names that come to mind for a place, a path and a sign that are added."""
        plain = [("q", "n", "z", "a"), ("o", "k", "x", "c"), ("q1", "q2", "q0", "b1"), ("b", "c", "d", "e")]
        for places, others in itertools.permutations(plain, 2):
            for paths, signs in (("abcde", "abcde"), ("pqrst", "stuvw"), ("fghij", "qrsxy")):
                first = self.named("m", places, paths, signs, ("off", "r", paths[0], 1))
                second = self.named("m", others, paths[::-1], signs[::-1])
                self.assertEqual(self.check_third(first, second), 1)
                self.assertEqual(self.check_third(second, first), 1)
                self.assertEqual(self.check_third(second, self.named("m", places, "uvwxy", "klmno", ("on", "s", "u", 3))), 0)

    def named(self, place, places, paths, signs, *notes):
        """A side with three further places, five paths from the common place to the first of them, and five signs."""
        meadow = Meadow(3, [place, *places[:3]], ["r", "s"], [(path, place, places[0]) for path in paths[:1]]
                        + [(path, places[1], places[2]) for path in paths[1:]],
                        signs=[(sign, ["r", "s"], [paths[1]]) for sign in signs])
        return Side(Book(meadow, {"r": places[0], "s": place}, *notes), place, ["s"])

    def test_names_of_one_side_alone(self):
        """A new name is free on both sides, whichever of them has the first letters."""
        first = self.named("m", "abc", "abcde", "abcde", ("off", "r", "a", 1))
        second = self.named("m", "def", "fghij", "fghij")
        self.assertEqual(self.check_third(first, second), 1)
        self.assertEqual(self.check_third(second, first), 1)

    def test_the_common_place_has_any_name(self):
        for place in ("a", "b", "q", "z", "a1"):
            self.assertEqual(self.check_third(self.named(place, ("k", "l", "m"), "abcde", "abcde", ("off", "r", "a", 2)),
                                              self.named(place, ("k", "l", "m"), "abcde", "abcde")), 1)

    def test_sixteen_notes(self):
        meadow = Meadow(3, ["a", "b", "m"], ["r", "s"], [("p", "a", "m"), ("o", "b", "m")])
        notes = [("on", "r", path, hour) for path in "po" for hour in (1, 2, 3)]
        notes += [("at", "r", place, hour) for place in "abm" for hour in (1, 2, 3)] + [("start", "r", ["a"])]
        self.assertEqual(len(notes), 16)
        self.assertEqual(self.check_third(left(*notes, meadow=meadow), left(*notes[1:], ("start", "r", []), meadow=meadow)), 0)
        self.assertIsNone(self.check_third(left(*notes, meadow=meadow), left(*notes[1:], meadow=meadow)))
        notes = [("off", "s", path, hour) for path in "po" for hour in (1, 2, 3)]
        notes += [("away", "s", place, hour) for place in "ab" for hour in (1, 2, 3)]
        notes += [("at", "r", "m", 1), ("at", "r", "a", 1), ("on", "r", "p", 1)]
        first, second = left(*notes, ("start", "r", ["a"]), meadow=meadow), left(*notes, ("off", "r", "p", 3), meadow=meadow)
        self.assertEqual((len(first.book), len(second.book)), (16, 16))
        self.assertEqual(self.check_third(first, second), 1)

    def test_the_order_of_the_checks(self):
        large, many = meadow_of(places=5), [("at", "s", place, hour) for place in "bc" for hour in (1, 2, 3)]
        many += [("on", "s", path, hour) for path in ("p0", "p1", "p2", "p3") for hour in (1, 2, 3)]
        too_large = Side(Book(large, all_at(large, "a"), *many), "a", ["r"])
        small = meadow_of()
        too_many = Side(Book(small, all_at(small, "a"), *many), "a", ["r"])
        good = Side(Book(small, all_at(small, "a")), "a", ["r"])
        for first, second in ((too_large, too_many), (too_large, good), (good, too_large), (too_large, too_large)):
            self.check_error(TooLarge, None, parting_side, first, second)
        for first, second in ((too_many, too_large), (too_many, good), (good, too_many)):
            self.check_error(TooMany, 16, parting_side, first, second)
        for other in (Side(good.book, "a", ["s"]), Side(good.book, "a", []), Side(good.book, "a", ["s", "r"]),
                      Side(Book(small, all_at(small, "b")), "b", ["r"]),
                      self.side_of(meadow_of(hours=2)), self.side_of(meadow_of(walkers=1)), self.side_of(meadow_of(walkers=3))):
            for side in (too_large, too_many, good):
                self.check_error(Clash, None, parting_side, side, other)
                self.check_error(Clash, None, parting_side, other, side)

    def side_of(self, meadow):
        return Side(Book(meadow, all_at(meadow, "a")), "a", ["r"])

    def test_the_sides_stay(self):
        first, second = left(("on", "s", "p", 1)), left()
        parting_side(first, second)
        self.assertEqual((first.book, second.book), (left(("on", "s", "p", 1)).book, left().book))


if __name__ == "__main__":
    unittest.main()
