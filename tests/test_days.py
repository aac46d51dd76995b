"""Days: points 8 to 12 and tallgrass/field/days.py."""

import unittest

from helpers import GrassCase, all_days, line_meadow, small_meadows
from tallgrass.base.errors import BadGoing, BadNumber, BadPlacing, TooMany, Unknown
from tallgrass.field.days import Day, exchange
from tallgrass.field.meadow import OLD, Meadow

STARTS = {"r": "a", "s": "c"}
GOINGS = [(1, "r", "p", "b"), (1, "s", "q", "b"), (2, "r", "p", "a"), (2, "r", "p", "b"), (3, "s", "q", "c")]


def to_and_fro(count):
    """So many goings of one walker along one path."""
    return [(1, "r", "p", "ba"[at % 2]) for at in range(count)]


class Possible(GrassCase):
    def test_a_day(self):
        day = Day(line_meadow(), STARTS, GOINGS)
        self.assertEqual(day.goings, tuple(GOINGS))
        self.assertEqual(list(day), GOINGS)
        self.assertEqual(len(day), 5)
        self.assertEqual((day.start("r"), day.start("s")), ("a", "c"))
        self.assertEqual((day.home("r"), day.home("s")), ("b", "c"))
        self.assertEqual((day.starts(), day.homes()), (STARTS, {"r": "b", "s": "c"}))
        self.assertEqual(Day.MOST_GOINGS, 2000)

    def test_no_goings(self):
        day = Day(line_meadow(), STARTS, [])
        self.assertEqual((len(day), day.goings, day.homes()), (0, (), STARTS))

    def test_what_makes_a_going_bad(self):
        meadow = Meadow(3, ["a", "b", "c"], ["r", "s"], [("p", "a", "b"), ("q", "b", "c")], gates=[("r", "p", 2)])
        first = (2, "r", "p", "b")
        for bad in [
                (0, "r", "p", "a"), (1, "r", "p", "a"), (3, "r", "p", "a"), (4, "s", "q", "b"), (-1, "r", "p", "a"),
                (2, "x", "p", "a"), (2, "r", "x", "a"), (2, "r", "p", "x"), (2, "r", "p", "c"), (2, "r", "p", "b"),
                (2, "s", "p", "a"), (2, "p", "r", "a"), (), (2,), (2, "r", "p"), (2, "r", "p", "a", "b"), OLD,
                ("2", "r", "p", "a")]:
            self.check_error(BadGoing, 1, Day, meadow, STARTS, [first, bad, ()])
        for good in [(2, "r", "p", "a"), (2, "r", "q", "c"), (3, "r", "q", "c"), (3, "s", "q", "b")]:
            self.assertEqual(len(Day(meadow, STARTS, [first, good])), 2)

    def test_a_bad_first_going(self):
        for bad in [(0, "r", "p", "b"), (-1, "r", "p", "b"), (4, "r", "p", "b"), (1, "s", "p", "b"), OLD]:
            self.check_error(BadGoing, 0, Day, line_meadow(), STARTS, [bad])

    def test_a_gate_of_nought(self):
        meadow = Meadow(1, ["a", "b"], ["r", "s"], [("p", "a", "b")], gates=[("r", "p", 0)])
        self.check_error(BadGoing, 0, Day, meadow, {"r": "a", "s": "a"}, [(1, "r", "p", "b")])
        self.assertEqual(Day(meadow, {"r": "a", "s": "a"}, [(1, "s", "p", "b")]).home("s"), "b")

    def test_the_first_bad_going(self):
        self.check_error(BadGoing, 0, Day, line_meadow(), STARTS, [(1, "r", "q", "b")])
        self.check_error(BadGoing, 2, Day, line_meadow(), STARTS, GOINGS[:2] + [(3, "r", "q", "b"), ()])

    def test_many_in_one_hour(self):
        day = Day(line_meadow(), STARTS, to_and_fro(2000))
        self.assertEqual((len(day), day.home("r"), day.last("p")), (2000, "a", 1999))
        self.check_error(TooMany, 2000, Day, line_meadow(), STARTS, to_and_fro(2001))
        self.check_error(TooMany, 2000, Day, line_meadow(), STARTS, [()] * 2001)
        self.check_error(BadGoing, 0, Day, line_meadow(), STARTS, [()] * 2000)
        self.check_error(TooMany, 2000, lambda: day + (1, "r", "p", "b"))
        self.check_error(TooMany, 2000, lambda: day + ())

    def test_all_days_are_days(self):
        for meadow in small_meadows():
            for day in all_days(meadow, 2):
                self.assertEqual(Day(meadow, day.starts(), list(day)), day)


class Starts(GrassCase):
    def check_starts(self, name, starts, goings=()):
        self.check_error(BadPlacing, name, Day, line_meadow(), starts, goings)

    def test_bad_starts(self):
        self.check_starts("r", {})
        self.check_starts("s", {"r": "a"})
        self.check_starts("r", {"s": "a"})
        self.check_starts("r", {"r": "x", "s": "a"})
        self.check_starts("s", {"r": "a", "s": "p"})
        self.check_starts("t", {"r": "a", "s": "a", "t": "a"})
        self.check_starts("a", {"s": "a", "a": "a"})

    def test_all_names_together_ascending(self):
        self.check_starts("q", {"t": "a", "q": "a"})
        self.check_starts("r", {"t": "a", "s": "x"})
        self.check_starts("r1", {"r1": "a", "r": "a"})
        self.check_starts("s", {"t": "a", "r": "a", "s": "x"})

    def test_the_starts_go_ahead_of_the_goings(self):
        self.check_starts("s", {"r": "a"}, [()] * 2001)
        self.check_starts("s", {"r": "a"}, [()])


class Where(GrassCase):
    def test_placings(self):
        day = Day(line_meadow(), STARTS, GOINGS)
        self.assertEqual([day.placing(k) for k in range(6)], [
            {"r": "a", "s": "c"}, {"r": "b", "s": "c"}, {"r": "b", "s": "b"}, {"r": "a", "s": "b"},
            {"r": "b", "s": "b"}, {"r": "b", "s": "c"}])
        self.assertEqual((day.placing(0), day.placing(5)), (day.starts(), day.homes()))
        for k in (-1, 6):
            self.check_error(BadNumber, k, day.placing, k)

    def test_where(self):
        day = Day(line_meadow(), STARTS, GOINGS)
        self.assertEqual([day.where("r", hour) for hour in (1, 2, 3)], [["a", "b"], ["a", "b"], ["b"]])
        self.assertEqual([day.where("s", hour) for hour in (1, 2, 3)], [["b", "c"], ["b"], ["b", "c"]])

    def test_where_between_goings(self):
        meadow = Meadow.grassy(6, ["a", "b"], ["r"], [("p", "a", "b")])
        day = Day(meadow, {"r": "b"}, [(2, "r", "p", "a"), (5, "r", "p", "b")])
        found = [day.where("r", hour) for hour in range(1, 7)]
        self.assertEqual(found, [["b"], ["a", "b"], ["a"], ["a"], ["a", "b"], ["b"]])
        self.assertEqual([Day(meadow, {"r": "b"}, []).where("r", hour) for hour in (1, 6)], [["b"], ["b"]])

    def test_where_by_its_words(self):
        for meadow in small_meadows():
            for day in all_days(meadow, 2):
                self.check_where(day)

    def check_where(self, day):
        meadow = day.meadow
        since = [1] + [going[0] for going in day]
        until = [going[0] for going in day] + [meadow.hours]
        for hour in range(1, meadow.hours + 1):
            lasting = [k for k in range(len(day) + 1) if since[k] <= hour <= until[k]]
            for walker in meadow.walkers:
                places = {day.placing(k)[walker] for k in lasting}
                self.assertEqual(day.where(walker, hour), sorted(places))

    def test_errors(self):
        day = Day(line_meadow(), STARTS, GOINGS)
        for call in (day.start, day.home):
            self.check_error(Unknown, "a", call, "a")
        self.check_error(Unknown, "x", day.where, "x", 0)
        for hour in (0, 4):
            self.check_error(BadNumber, hour, day.where, "r", hour)


class Shown(GrassCase):
    def test_last_and_shown(self):
        meadow = Meadow(3, ["a", "b", "c"], ["r", "s"], [("p", "a", "b"), ("q", "b", "c")],
                        signs=[("u", ["r"], ["p"]), ("v", ["s"], ["p"]), ("w", ["r", "s"], ["p", "q"])])
        day = Day(meadow, STARTS, GOINGS[:4])
        self.assertEqual([day.last(sign) for sign in "uvw"], [3, -1, 3])
        self.assertEqual([day.shown(sign) for sign in "uvw"], [GOINGS[3], OLD, GOINGS[3]])
        day = Day(meadow, STARTS, GOINGS)
        self.assertEqual([day.last(sign) for sign in "uvw"], [3, -1, 4])
        self.assertEqual([day.shown(sign) for sign in "uvw"], [GOINGS[3], OLD, GOINGS[4]])
        for call in (day.last, day.shown):
            self.check_error(Unknown, "p", call, "p")

    def test_untouched(self):
        day = Day(line_meadow(), STARTS, [])
        self.assertEqual((day.last("p"), day.shown("p")), (-1, OLD))


class Exchange(GrassCase):
    def test_exchange(self):
        day = Day(line_meadow(), STARTS, GOINGS)
        other = exchange(day, 0)
        self.assertEqual(other.goings, (GOINGS[1], GOINGS[0]) + tuple(GOINGS[2:]))
        self.assertEqual(exchange(other, 0), day)
        self.assertEqual(day.goings, tuple(GOINGS))

    def test_errors(self):
        day = Day(line_meadow(), STARTS, GOINGS)
        for at in (-1, 4, 5):
            self.check_error(BadNumber, at, exchange, day, at)
        for at in (1, 2, 3):
            self.check_error(BadGoing, at, exchange, day, at)
        for goings in ([], GOINGS[:1]):
            for at in (-1, 0):
                self.check_error(BadNumber, at, exchange, Day(line_meadow(), STARTS, goings), at)

    def test_what_stays_the_same(self):
        for meadow in small_meadows():
            for day in all_days(meadow, 3):
                for at in range(len(day) - 1):
                    first, second = day.goings[at:at + 2]
                    if first[0] == second[0] and first[1] != second[1]:
                        self.check_exchange(day, at, first, second)

    def check_exchange(self, day, at, first, second):
        other = exchange(day, at)
        self.assertEqual(other.homes(), day.homes())
        for sign, walkers, paths in day.meadow.signs:
            both = all(going[1] in walkers and going[2] in paths for going in (first, second))
            if not both:
                self.assertEqual(other.shown(sign), day.shown(sign))


class Conventions(GrassCase):
    def test_adding_a_going(self):
        day = Day(line_meadow(), STARTS, GOINGS[:2])
        longer = day + GOINGS[2]
        self.assertEqual(longer, Day(line_meadow(), STARTS, GOINGS[:3]))
        self.assertEqual(len(day), 2)
        self.check_error(BadGoing, 2, lambda: day + GOINGS[0])
        self.check_error(BadGoing, 2, lambda: day + ())

    def test_equality(self):
        day = Day(line_meadow(), STARTS, GOINGS)
        self.assertTrue(day == Day(line_meadow(), dict(STARTS), tuple(GOINGS)))
        self.assertFalse(day != Day(line_meadow(), dict(STARTS), tuple(GOINGS)))
        empty = Day(line_meadow(), STARTS, [])
        others = [Day(line_meadow(4), STARTS, GOINGS), Day(line_meadow(), STARTS, GOINGS[:4]), empty,
                  tuple(GOINGS), None, "day"]
        for other in others:
            self.assertFalse(day == other)
            self.assertTrue(day != other)
        self.assertFalse(empty == Day(line_meadow(), {"r": "a", "s": "b"}, []))
        self.assertFalse(day == exchange(day, 0))

    def test_nothing_given_is_modified_or_kept(self):
        starts, goings = dict(STARTS), list(GOINGS)
        day = Day(line_meadow(), starts, goings)
        self.assertEqual((starts, goings), (STARTS, GOINGS))
        starts["r"] = "b"
        goings.clear()
        self.assertEqual((day.starts(), day.goings), (STARTS, tuple(GOINGS)))

    def test_what_is_returned_is_new(self):
        day = Day(line_meadow(), STARTS, GOINGS)
        for call in (day.starts, day.homes, lambda: day.placing(0), lambda: day.placing(5)):
            found = call()
            kept = dict(found)
            found.clear()
            self.assertEqual(call(), kept)
        day.where("r", 1).clear()
        self.assertEqual(day.where("r", 1), ["a", "b"])

    def test_tuples_in_place_of_lists(self):
        self.assertEqual(Day(line_meadow(), STARTS, tuple(GOINGS)), Day(line_meadow(), STARTS, GOINGS))


if __name__ == "__main__":
    unittest.main()
