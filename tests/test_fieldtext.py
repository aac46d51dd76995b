"""The texts of meadows and of days: points 13 to 15 and tallgrass/field/fieldtext.py."""

import itertools
import unittest

from helpers import GrassCase, all_days, line_meadow, small_meadows
from tallgrass.base.errors import BadLine
from tallgrass.field.days import Day
from tallgrass.field.fieldtext import day_text, meadow_text, read_day, read_meadow
from tallgrass.field.meadow import Meadow

MEADOW = Meadow(3, ["b", "a", "c"], ["s", "r"], [("q", "c", "b"), ("p", "b", "a")],
                gates=[("s", "q", 2), ("r", "p", 0), ("r", "q", 3)],
                signs=[("v", ["s", "r"], ["q", "p"]), ("u", ["s"], ["q"])])
LINES = [
    "hours 3", "place a", "place b", "place c", "walker r", "walker s", "path p a b", "path q b c",
    "gate r p 0", "gate s q 2", "sign u walkers s paths q", "sign v walkers r s paths p q",
]
LONG = "1" + "0" * 5000


class MeadowText(GrassCase):
    def check_bad(self, line, *lines):
        self.check_error(BadLine, line, read_meadow, "\n".join(lines))

    def test_written(self):
        self.assertEqual(meadow_text(MEADOW), "\n".join(LINES))
        self.assertEqual(meadow_text(Meadow(1, ["a"], ["r"], [])), "hours 1\nplace a\nwalker r")

    def test_read_back(self):
        for meadow in small_meadows() + [MEADOW, Meadow(1, ["a"], ["r"], [])]:
            self.assertEqual(read_meadow(meadow_text(meadow)), meadow)

    def test_other_lines_in_any_order(self):
        lines = ["hours 3", "walker s", "place c", "walker r", "place b", "path q c b", "gate s q 2", "place a",
                 "sign u walkers s paths q", "path p b a", "gate r p 0", "sign v walkers s r paths q p",
                 "gate r q 3"]
        self.assertEqual(read_meadow("\n".join(lines)), MEADOW)

    def test_one_name_in_each_group(self):
        lines = ["hours 1", "place a", "place b", "walker a", "path a a b", "sign a walkers a paths a"]
        self.assertEqual(read_meadow("\n".join(lines)),
                         Meadow(1, ["a", "b"], ["a"], [("a", "a", "b")], signs=[("a", ["a"], ["a"])]))

    def test_the_first_line(self):
        for line in ("", "hours", "hours 0", "hours 7", "hours 01", "hours 1 1", "Hours 1", "place a", "hours -1",
                     "hours " + LONG, " hours 1", "hours 1 ", "hours  1", "hours 1\r", "hours\t1", "hours a", "1"):
            self.check_bad(1, line, "place a", "walker r")
        self.check_error(BadLine, 1, read_meadow, "")
        for hours in range(1, 7):
            self.assertEqual(read_meadow(f"hours {hours}\nplace a\nwalker r").hours, hours)

    def test_lines_without_a_form(self):
        for line in ("", " ", "place", "place b c", "place B", "walker", "walker s t", "path", "path t a", "path t a b c",
                     "gate r p", "gate r p 1 1", "gate r p x", "sign", "sign w", "sign w walkers", "sign w walkers r",
                     "sign w walkers r paths", "sign w walkers paths p", "sign w paths p walkers r", "sign w r paths p",
                     "sign walkers r paths p", "sign w walkers r p", "sign paths walkers r", "hours 3", "hours 2",
                     "home r a", "meadow", " place d", "place d ", "place  d", "place d\r", "place\td", "# place d",
                     "sign w walkers r paths p paths p", "sign w walkers r walkers s paths p", "sign w walkers paths",
                     "sign w walkers r paths p ", "sign paths walkers r paths p", "gates r q 1", "paths t a b",
                     "signs w walkers r paths p", "sign w by r paths p", "sign w walkers r by p", "places d",
                     "walkers t"):
            self.check_bad(13, *LINES, line)
            self.check_bad(13, *LINES, line, "nonsense")

    def test_lines_that_break_the_rules(self):
        for line in ("place a", "place d1234", "walker r", "walker R", "path p b c", "path t a a", "path t a d",
                     "path t d a", "path T a b", "path t r s", "gate r p 0", "gate r q 4", "gate x q 1", "gate r t 1",
                     "gate q r 1", "gate r q 01", "gate r q -1", "gate r q +1", "gate r q " + LONG, "gate s q 3",
                     "sign u walkers r paths p", "sign W walkers r paths p", "sign w walkers x paths p",
                     "sign w walkers r paths x", "sign w walkers r r paths p", "sign w walkers r paths p p",
                     "sign w walkers p paths r"):
            self.check_bad(13, *LINES, line)

    def test_a_gate_that_says_nothing_counts(self):
        self.check_bad(14, *LINES, "gate r q 3", "gate r q 3")
        self.check_bad(14, *LINES, "gate r q 3", "gate r q 1")

    def test_too_many(self):
        start = ["hours 1", "place a", "place b", "walker r"]
        places = [f"place c{at}" for at in range(6)]
        walkers = [f"walker s{at}" for at in range(3)]
        paths = [f"path p{at} a b" for at in range(10)]
        signs = [f"sign u{at} walkers r paths p" for at in range(10)]
        for lines, bad in ((places, 10), (walkers, 7), (paths, 14)):
            self.check_bad(bad, *start, *lines)
            self.assertEqual(read_meadow("\n".join(start + lines[:-1])).hours, 1)
        self.check_bad(15, *start, "path p a b", *signs)
        self.assertEqual(len(read_meadow("\n".join(start + ["path p a b"] + signs[:-1])).signs), 9)

    def test_names_declared_only_later(self):
        self.check_bad(3, "hours 1", "place a", "path p a b", "place b", "walker r")
        self.check_bad(4, "hours 1", "place a", "place b", "gate r p 1", "walker r", "path p a b")
        self.check_bad(5, "hours 1", "place a", "place b", "walker r", "gate r p 1", "path p a b")
        self.check_bad(5, "hours 1", "place a", "place b", "path p a b", "sign u walkers r paths p", "walker r")
        self.check_bad(5, "hours 1", "place a", "place b", "walker r", "sign u walkers r paths p", "path p a b")

    def test_missing_at_the_end(self):
        self.check_bad(2, "hours 1")
        self.check_bad(3, "hours 1", "place a")
        self.check_bad(3, "hours 1", "walker r")
        self.check_bad(5, "hours 1", "place a", "place b", "path p a b")
        self.check_bad(2, "hours 1", "nonsense")
        self.check_bad(3, "hours 1", "place a", "")

    def test_a_line_feed_at_the_end(self):
        self.check_bad(13, *LINES, "")
        self.check_bad(1, "", *LINES)
        self.check_bad(4, *LINES[:3], "", *LINES[3:])

    def test_the_first_bad_line_counts(self):
        for first, second in itertools.combinations(range(12), 2):
            lines = list(LINES)
            lines[first] = lines[second] = "nonsense"
            self.check_bad(first + 1, *lines)


class DayText(GrassCase):
    starts = ["start r a", "start s c"]
    goings = [(1, "r", "p", "b"), (1, "s", "q", "b"), (3, "r", "p", "a")]
    lines = starts + ["go 1 r p b", "go 1 s q b", "go 3 r p a"]

    def check_bad(self, line, *lines):
        self.check_error(BadLine, line, read_day, line_meadow(), "\n".join(lines))

    def test_written(self):
        day = Day(line_meadow(), {"s": "c", "r": "a"}, self.goings)
        self.assertEqual(day_text(day), "\n".join(self.lines))
        self.assertEqual(day_text(Day(line_meadow(), {"s": "c", "r": "a"}, [])), "start r a\nstart s c")

    def test_read_back(self):
        for meadow in small_meadows():
            for day in all_days(meadow, 2):
                self.assertEqual(read_day(meadow, day_text(day)), day)

    def test_the_starts(self):
        self.check_bad(1, "start s c", "start r a")
        self.check_bad(2, "start r a")
        self.check_bad(2, "start r a", "start r a")
        self.check_bad(2, "start r a", "go 1 r p b", "start s c")
        self.check_bad(2, "start r a", "start s d")
        self.check_bad(3, *self.starts, "start s c")
        self.check_bad(3, *self.starts, "start t c")
        for line in ("", "start r", "start r a a", "home r a", "start  r a", "start r a ", " start r a", "start r a\r"):
            self.check_bad(1, line, "start s c")
        self.check_error(BadLine, 1, read_day, line_meadow(), "")

    def test_bad_goings(self):
        for line in ("", "go", "go 3 s q", "go 3 s q c c", "go 3 r p a", "go 3 r q c", "go 3 s q x", "go 3 s x c",
                     "go 3 x q c", "go 3 s p c", "go 2 s q c", "go 4 s q c", "go 03 s q c", "go 0 s q c", "go +3 s q c",
                     "go x s q c", "go " + LONG + " s q c", "go 3 s q c ", " go 3 s q c", "go  3 s q c", "go\t3 s q c",
                     "Go 3 s q c", "3 s q c", "gone 3 s q c", "go 3 s q c\r"):
            self.check_bad(6, *self.lines, line)
            self.check_bad(6, *self.lines, line, "nonsense")
        self.assertEqual(len(read_day(line_meadow(), "\n".join(self.lines + ["go 3 s q c"]))), 4)

    def test_a_line_feed_at_the_end(self):
        self.check_bad(6, *self.lines, "")
        self.check_bad(3, *self.starts, "")

    def test_most_goings(self):
        lines = self.starts + [f"go 1 r p {'ba'[at % 2]}" for at in range(2000)]
        self.assertEqual(len(read_day(line_meadow(), "\n".join(lines))), 2000)
        self.check_bad(2003, *lines, "go 1 r p b")
        self.check_bad(2003, *lines, "nonsense", "nonsense")
        self.check_bad(2003, *lines, *lines)
        lines[100] = "nonsense"
        self.check_bad(101, *lines, "go 1 r p b")


if __name__ == "__main__":
    unittest.main()
