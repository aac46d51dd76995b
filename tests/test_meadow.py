"""The meadow: points 2 to 7 and tallgrass/field/meadow.py."""

import itertools
import unittest

from helpers import GrassCase
from tallgrass.base.errors import BadName, BadNumber, BadPath, TooMany, Twice, Unknown
from tallgrass.field.meadow import OLD, Meadow

PLACES = ["a", "b", "c"]
WALKERS = ["r", "s"]
PATHS = [("p", "a", "b"), ("q", "c", "b")]


def names(letter, count):
    return [f"{letter}{at}" for at in range(count)]


def many_paths(count):
    return [(name, "a", "b") for name in names("p", count)]


def many_signs(count):
    return [(name, ["r"], ["p"]) for name in names("u", count)]


class Parts(GrassCase):
    def test_attributes_are_ascending(self):
        meadow = Meadow(3, ["c", "a10", "a2", "a"], ["s", "r"], [("q", "c", "a"), ("p", "a2", "a10")],
                        gates=[("s", "q", 2), ("r", "q", 0), ("r", "p", 3)],
                        signs=[("v", ["s", "r"], ["q", "p"]), ("u", ["s"], ["q"])])
        self.assertEqual(meadow.hours, 3)
        self.assertEqual(meadow.places, ("a", "a10", "a2", "c"))
        self.assertEqual(meadow.walkers, ("r", "s"))
        self.assertEqual(meadow.paths, (("p", "a10", "a2"), ("q", "a", "c")))
        self.assertEqual(meadow.gates, (("r", "q", 0), ("s", "q", 2)))
        self.assertEqual(meadow.signs, (("u", ("s",), ("q",)), ("v", ("r", "s"), ("p", "q"))))

    def test_class_values(self):
        self.assertEqual((Meadow.MOST_HOURS, Meadow.MOST_PLACES, Meadow.MOST_WALKERS), (6, 7, 3))
        self.assertEqual((Meadow.MOST_PATHS, Meadow.MOST_SIGNS), (9, 9))

    def test_gates_and_signs_by_keyword_only(self):
        self.assertRaises(TypeError, Meadow, 1, PLACES, WALKERS, PATHS, [])

    def test_ends_and_across(self):
        meadow = Meadow(3, PLACES, WALKERS, PATHS)
        self.assertEqual(meadow.ends("q"), ("b", "c"))
        self.assertEqual((meadow.across("q", "b"), meadow.across("q", "c")), ("c", "b"))
        self.check_error(Unknown, "a", meadow.ends, "a")
        self.check_error(Unknown, "x", meadow.across, "x", "y")
        self.check_error(Unknown, "a", meadow.across, "q", "a")
        self.check_error(Unknown, "y", meadow.across, "q", "y")

    def test_paths_at(self):
        meadow = Meadow(3, PLACES + ["d"], WALKERS, [("q", "c", "b"), ("p", "a", "b"), ("o", "b", "a")])
        self.assertEqual(meadow.paths_at("b"), ("o", "p", "q"))
        self.assertEqual(meadow.paths_at("a"), ("o", "p"))
        self.assertEqual(meadow.paths_at("d"), ())
        self.check_error(Unknown, "p", meadow.paths_at, "p")

    def test_gate(self):
        meadow = Meadow(3, PLACES, WALKERS, PATHS, gates=[("r", "p", 0), ("s", "q", 2)])
        self.assertEqual([meadow.gate(walker, path) for walker in "rs" for path in "pq"], [0, 3, 3, 2])
        self.check_error(Unknown, "p", meadow.gate, "p", "r")
        self.check_error(Unknown, "r", meadow.gate, "r", "r")

    def test_watching(self):
        signs = [("v", ["r", "s"], ["p"]), ("u", ["r"], ["q", "p"]), ("w", ["s"], ["p"])]
        meadow = Meadow(3, PLACES, WALKERS, PATHS, signs=signs)
        self.assertEqual(meadow.watching("r", "p"), ("u", "v"))
        self.assertEqual(meadow.watching("s", "p"), ("v", "w"))
        self.assertEqual(meadow.watching("r", "q"), ("u",))
        self.assertEqual(meadow.watching("s", "q"), ())
        self.check_error(Unknown, "x", meadow.watching, "x", "y")
        self.check_error(Unknown, "y", meadow.watching, "r", "y")

    def test_grassy(self):
        meadow = Meadow.grassy(3, PLACES, WALKERS, PATHS)
        signs = [("p", WALKERS, ["p"]), ("q", WALKERS, ["q"])]
        self.assertEqual(meadow, Meadow(3, PLACES, WALKERS, PATHS, signs=signs))
        self.assertEqual(meadow.gates, ())
        self.assertEqual(meadow.signs, (("p", ("r", "s"), ("p",)), ("q", ("r", "s"), ("q",))))
        self.assertEqual(Meadow.grassy(1, ["a"], ["r"], []).signs, ())

    def test_grassy_errors(self):
        self.check_error(BadNumber, 0, Meadow.grassy, 0, ["A"], ["R"], [("P", "x", "y")])
        self.check_error(BadName, "A", Meadow.grassy, 1, ["A"], ["R"], [("P", "x", "y")])
        self.check_error(BadNumber, 0, Meadow.grassy, 1, ["a"], [], [("P", "x", "y")])
        self.check_error(BadName, "P", Meadow.grassy, 1, ["a"], ["r"], [("P", "x", "y")])
        self.check_error(Twice, "p", Meadow.grassy, 1, PLACES, ["r"], PATHS + [("p", "a", "c")])
        self.check_error(TooMany, 9, Meadow.grassy, 1, PLACES, ["r"], many_paths(10))


class Bounds(GrassCase):
    def test_hours(self):
        self.assertEqual([Meadow(hours, ["a"], ["r"], []).hours for hours in (1, 6)], [1, 6])
        for hours in (0, 7, -1):
            self.check_error(BadNumber, hours, Meadow, hours, ["a"], ["r"], [])

    def test_places(self):
        self.assertEqual(len(Meadow(1, names("a", 7), ["r"], []).places), 7)
        self.check_error(TooMany, 7, Meadow, 1, names("a", 8), ["r"], [])
        self.check_error(BadNumber, 0, Meadow, 1, [], ["r"], [])

    def test_walkers(self):
        self.assertEqual(len(Meadow(1, ["a"], names("r", 3), []).walkers), 3)
        self.check_error(TooMany, 3, Meadow, 1, ["a"], names("r", 4), [])
        self.check_error(BadNumber, 0, Meadow, 1, ["a"], [], [])

    def test_paths(self):
        self.assertEqual(Meadow(1, ["a", "b"], ["r"], []).paths, ())
        self.assertEqual(len(Meadow(1, ["a", "b"], ["r"], many_paths(9)).paths), 9)
        self.check_error(TooMany, 9, Meadow, 1, ["a", "b"], ["r"], many_paths(10))

    def test_signs(self):
        self.assertEqual(len(Meadow(1, PLACES, ["r"], PATHS, signs=many_signs(9)).signs), 9)
        self.check_error(TooMany, 9, Meadow, 1, PLACES, ["r"], PATHS, signs=many_signs(10))

    def test_gates(self):
        for hour in (0, 3):
            Meadow(3, PLACES, WALKERS, PATHS, gates=[("r", "p", hour)])
        for hour in (-1, 4):
            self.check_error(BadNumber, hour, Meadow, 3, PLACES, WALKERS, PATHS, gates=[("r", "p", hour)])

    def test_a_gate_for_every_walker_and_path(self):
        gates = [(walker, path, 0) for walker in names("r", 3) for path in names("p", 9)]
        meadow = Meadow(1, ["a", "b"], names("r", 3), many_paths(9), gates=gates)
        self.assertEqual(len(meadow.gates), 27)


class Checks(GrassCase):
    def test_the_count_goes_ahead_of_the_items(self):
        self.check_error(TooMany, 7, Meadow, 1, ["A"] * 8, ["r"], [])
        self.check_error(TooMany, 3, Meadow, 1, ["a"], ["R"] * 4, [])
        self.check_error(TooMany, 9, Meadow, 1, ["a"], ["r"], [("P", "x", "x")] * 10)
        self.check_error(TooMany, 9, Meadow, 1, ["a"], ["r"], [], signs=[("U", [], [])] * 10)

    def test_the_order_of_the_arguments(self):
        bad = [
            (BadNumber, 7, 7), (BadName, "A", ["A"]), (BadName, "R", ["R"]), (BadName, "P", [("P", "a", "b")]),
            (Unknown, "x", [("x", "p", 1)]), (BadName, "U", [("U", ["r"], ["p"])]),
        ]
        good = [3, PLACES, WALKERS, PATHS, [("r", "p", 1)], [("u", ["r"], ["p"])]]
        for first, second in itertools.combinations(range(6), 2):
            given = list(good)
            given[first], given[second] = bad[first][2], bad[second][2]
            self.check_error(bad[first][0], bad[first][1], Meadow, *given[:4], gates=given[4], signs=given[5])

    def test_names_in_order(self):
        self.check_error(BadName, "B", Meadow, 1, ["a", "B", "a"], ["r"], [])
        self.check_error(Twice, "a", Meadow, 1, ["a", "a", "B"], ["r"], [])
        self.check_error(BadName, "B", Meadow, 1, ["B", "B"], ["r"], [])
        self.check_error(Twice, "r", Meadow, 1, ["a"], ["r", "s", "r"], [])
        self.check_error(BadName, "p0123", Meadow, 1, ["a"], ["p0123"], [])

    def test_paths_in_order(self):
        def check(error, field, *paths):
            self.check_error(error, field, Meadow, 1, PLACES, WALKERS, [("p", "a", "b"), *paths])
        check(BadName, "P", ("P", "x", "x"))
        check(Twice, "p", ("p", "x", "x"))
        check(Unknown, "x", ("q", "x", "y"))
        check(Unknown, "y", ("q", "a", "y"))
        check(Unknown, "x", ("q", "x", "x"))
        check(BadPath, "q", ("q", "a", "a"))
        check(BadPath, "q", ("q", "a", "a"), ("P", "a", "b"))
        check(Unknown, "r", ("q", "a", "r"))

    def test_gates_in_order(self):
        def check(error, field, *gates):
            self.check_error(error, field, Meadow, 2, PLACES, WALKERS, PATHS, gates=list(gates))
        check(Unknown, "x", ("x", "y", 9))
        check(Unknown, "y", ("r", "y", 9))
        check(BadNumber, 3, ("r", "p", 3))
        check(BadNumber, 3, ("r", "p", 1), ("r", "p", 3))
        check(Twice, "p", ("r", "p", 1), ("r", "p", 1))
        check(Twice, "p", ("r", "p", 2), ("s", "p", 1), ("r", "p", 0), ("x", "y", 9))
        check(Unknown, "p", ("p", "r", 1))

    def test_signs_in_order(self):
        def check(error, field, *signs):
            self.check_error(error, field, Meadow, 2, PLACES, WALKERS, PATHS, signs=list(signs))
        good = ("u", ["r"], ["p"])
        check(BadName, "U", ("U", [], []))
        check(Twice, "u", good, ("u", [], []))
        check(BadNumber, 0, ("u", [], ["y"]))
        check(Unknown, "x", ("u", ["x", "x"], []))
        check(Twice, "r", ("u", ["r", "r", "x"], []))
        check(Unknown, "x", ("u", ["r", "x", "r"], []))
        check(BadNumber, 0, ("u", ["r"], []))
        check(Unknown, "y", ("u", ["r"], ["p", "y", "p"]))
        check(Twice, "p", ("u", ["r"], ["p", "p", "y"]))
        check(Twice, "p", ("u", ["r"], ["p", "p"]), ("U", [], []))

    def test_the_groups_are_separate(self):
        meadow = Meadow(1, ["a", "b"], ["a"], [("a", "a", "b")], signs=[("a", ["a"], ["a"])])
        self.assertEqual(meadow.watching("a", "a"), ("a",))


class Equality(GrassCase):
    def test_order_makes_no_difference(self):
        gates = [("r", "p", 1), ("s", "q", 0), ("s", "p", 2)]
        signs = [("u", ["r", "s"], ["p", "q"]), ("v", ["s"], ["q"])]
        meadow = Meadow(3, PLACES, WALKERS, PATHS, gates=gates, signs=signs)
        other = Meadow(3, PLACES[::-1], WALKERS[::-1], [(name, second, first) for name, first, second in PATHS[::-1]],
                       gates=gates[::-1], signs=[(name, ws[::-1], ps[::-1]) for name, ws, ps in signs[::-1]])
        self.assertTrue(meadow == other)
        self.assertFalse(meadow != other)
        self.assertEqual(vars(meadow).keys(), vars(other).keys())
        self.assertEqual([meadow.places, meadow.walkers, meadow.paths, meadow.gates, meadow.signs],
                         [other.places, other.walkers, other.paths, other.gates, other.signs])

    def test_a_gate_with_all_hours_says_nothing(self):
        self.assertEqual(Meadow(3, PLACES, WALKERS, PATHS, gates=[("r", "p", 3)]), Meadow(3, PLACES, WALKERS, PATHS))

    def test_unequal(self):
        signs = [("u", ["r"], ["p"])]
        meadow = Meadow(3, PLACES, WALKERS, PATHS, signs=signs)
        others = [
            Meadow(2, PLACES, WALKERS, PATHS, signs=signs),
            Meadow(3, PLACES + ["d"], WALKERS, PATHS, signs=signs),
            Meadow(3, PLACES, ["r"], PATHS, signs=signs),
            Meadow(3, PLACES, WALKERS, [("p", "a", "c"), ("q", "b", "c")], signs=signs),
            Meadow(3, PLACES, WALKERS, PATHS, gates=[("r", "p", 2)], signs=signs),
            Meadow(3, PLACES, WALKERS, PATHS),
            Meadow(3, PLACES, WALKERS, PATHS, signs=[("u", ["r", "s"], ["p"])]),
            Meadow(3, PLACES, WALKERS, PATHS, signs=[("v", ["r"], ["p"])]),
            "meadow", None, 3, (3, meadow.places, meadow.walkers, meadow.paths, meadow.gates, meadow.signs),
        ]
        for other in others:
            self.assertFalse(meadow == other)
            self.assertTrue(meadow != other)


class Marks(GrassCase):
    def test_all_marks(self):
        meadow = Meadow(3, PLACES, WALKERS, PATHS, gates=[("r", "p", 1), ("s", "p", 0), ("r", "q", 2)],
                        signs=[("u", ["s", "r"], ["q", "p"]), ("v", ["s"], ["p"])])
        marks = meadow.all_marks("u")
        self.assertEqual(OLD, (0, "", "", ""))
        self.assertEqual(marks, (
            OLD, (1, "r", "p", "a"), (1, "r", "p", "b"), (1, "r", "q", "b"), (1, "r", "q", "c"),
            (1, "s", "q", "b"), (1, "s", "q", "c"), (2, "r", "q", "b"), (2, "r", "q", "c"),
            (2, "s", "q", "b"), (2, "s", "q", "c"), (3, "s", "q", "b"), (3, "s", "q", "c")))
        self.assertEqual(meadow.all_marks("v"), (OLD,))
        self.check_error(Unknown, "p", meadow.all_marks, "p")

    def test_how_many(self):
        meadow = Meadow(6, ["a", "b"], names("r", 3), many_paths(9), signs=[("u", names("r", 3), names("p", 9))])
        self.assertEqual(len(meadow.all_marks("u")), 1 + 6 * 3 * 9 * 2)
        self.assertEqual(list(meadow.all_marks("u")), sorted(meadow.all_marks("u")))


class Conventions(GrassCase):
    def test_nothing_given_is_modified_or_kept(self):
        places, walkers, paths = ["b", "a"], ["s", "r"], [("q", "b", "a"), ("p", "a", "b")]
        gates = [("s", "q", 1), ("r", "p", 0)]
        watched, by = ["s", "r"], ["q", "p"]
        signs = [("v", watched, by), ("u", ["s"], ["q"])]
        meadow = Meadow(2, places, walkers, paths, gates=gates, signs=signs)
        self.assertEqual((places, walkers, paths), (["b", "a"], ["s", "r"], [("q", "b", "a"), ("p", "a", "b")]))
        self.assertEqual(gates, [("s", "q", 1), ("r", "p", 0)])
        self.assertEqual(signs, [("v", ["s", "r"], ["q", "p"]), ("u", ["s"], ["q"])])
        for given in (places, walkers, paths, gates, watched, by, signs):
            given.clear()
        self.assertEqual(meadow, Meadow(2, ["a", "b"], ["r", "s"], [("p", "a", "b"), ("q", "a", "b")],
                                        gates=[("r", "p", 0), ("s", "q", 1)],
                                        signs=[("u", ["s"], ["q"]), ("v", ["r", "s"], ["p", "q"])]))
        self.assertEqual(meadow.watching("r", "p"), ("v",))

    def test_grassy_does_not_modify(self):
        walkers, paths = ["s", "r"], [("q", "b", "a"), ("p", "a", "b")]
        meadow = Meadow.grassy(2, ["b", "a"], walkers, paths)
        self.assertEqual((walkers, paths), (["s", "r"], [("q", "b", "a"), ("p", "a", "b")]))
        walkers.clear()
        self.assertEqual(meadow.signs, (("p", ("r", "s"), ("p",)), ("q", ("r", "s"), ("q",))))

    def test_tuples_in_place_of_lists(self):
        meadow = Meadow(2, ("b", "a"), ("s", "r"), (("q", "b", "a"),), gates=(("s", "q", 1),),
                        signs=(("u", ("s", "r"), ("q",)),))
        self.assertEqual(meadow, Meadow(2, ["a", "b"], ["r", "s"], [("q", "a", "b")], gates=[("s", "q", 1)],
                                        signs=[("u", ["r", "s"], ["q"])]))
        self.assertEqual(Meadow.grassy(2, ("a", "b"), ("r",), (("q", "a", "b"),)),
                         Meadow.grassy(2, ["a", "b"], ["r"], [("q", "a", "b")]))
        self.check_error(Twice, "a", Meadow, 1, ("a", "a"), ("r",), ())
        self.check_error(Twice, "r", Meadow, 1, ("a", "b"), ("r",), (("p", "a", "b"),),
                         signs=(("u", ("r", "r"), ("p",)),))


if __name__ == "__main__":
    unittest.main()
