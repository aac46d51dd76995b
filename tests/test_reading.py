"""Readings: point 20 and tallgrass/notes/reading.py."""

import operator
import random
import unittest

from helpers import GrassCase, line_meadow
from tallgrass.base.errors import BadMark, Clash, Unknown
from tallgrass.field.meadow import OLD
from tallgrass.notes.reading import Reading

MEADOW = line_meadow(2)
MARKS = MEADOW.all_marks("p")
OPERATORS = (operator.and_, operator.or_, operator.sub, operator.xor)


def reading(*marks):
    return Reading(MEADOW, "p", marks)


class Making(GrassCase):
    def test_attributes(self):
        found = Reading(MEADOW, "p", [MARKS[3], OLD, MARKS[1], MARKS[3]])
        self.assertEqual((found.meadow, found.sign, found.marks), (MEADOW, "p", (OLD, MARKS[1], MARKS[3])))
        self.assertEqual((len(found), list(found)), (3, [OLD, MARKS[1], MARKS[3]]))

    def test_every_and_nothing(self):
        self.assertEqual(Reading.every(MEADOW, "p").marks, MARKS)
        self.assertEqual(Reading.nothing(MEADOW, "p").marks, ())
        self.assertEqual((len(Reading.nothing(MEADOW, "p")), list(Reading.nothing(MEADOW, "p"))), (0, []))
        for call in (Reading.every, Reading.nothing):
            self.check_error(Unknown, "x", call, MEADOW, "x")

    def test_errors(self):
        self.check_error(Unknown, "x", Reading, MEADOW, "x", [()])
        self.check_error(Unknown, "a", Reading, MEADOW, "a", [])
        for mark in ((), (3, "r", "p", "a"), (1, "r", "q", "b"), (0, "r", "p", "a")):
            self.check_error(BadMark, mark, Reading, MEADOW, "p", [OLD, mark, (9,)])

    def test_the_argument_is_copied(self):
        marks = [MARKS[2], OLD]
        found = Reading(MEADOW, "p", marks)
        self.assertEqual(marks, [MARKS[2], OLD])
        marks.clear()
        self.assertEqual(found, Reading(MEADOW, "p", (OLD, MARKS[2])))

    def test_contains(self):
        found = reading(OLD, MARKS[2])
        for mark in MARKS:
            self.assertIs(mark in found, mark in (OLD, MARKS[2]))
        for other in ((), (0,), ("old",), (1, "r", "q", "b"), (9, 9, 9, 9), MARKS[2] + ("a",), MARKS[2][:3]):
            self.assertIs(other in Reading.every(MEADOW, "p"), False)

    def test_old(self):
        self.assertIs(reading(OLD, MARKS[1]).old, True)
        self.assertIs(reading(MARKS[1]).old, False)
        self.assertIs(reading().old, False)

    def test_as_note(self):
        self.assertEqual(reading(MARKS[2], OLD).as_note(), ("shows", "p", (OLD, MARKS[2])))
        self.assertEqual(reading().as_note(), ("shows", "p", ()))


class Operators(GrassCase):
    def test_as_sets(self):
        rng = random.Random(3)
        for _ in range(100):
            first = set(rng.sample(MARKS, rng.randint(0, len(MARKS))))
            second = set(rng.sample(MARKS, rng.randint(0, len(MARKS))))
            one, two = reading(*first), reading(*second)
            for call in OPERATORS:
                found = call(one, two)
                self.assertIsInstance(found, Reading)
                self.assertEqual(found.marks, tuple(sorted(call(first, second))))
            self.assertEqual((~one).marks, tuple(sorted(set(MARKS) - first)))
            self.assertIs(one.within(two), first <= second)
            self.assertEqual((one.marks, two.marks), (tuple(sorted(first)), tuple(sorted(second))))

    def test_laws(self):
        one = reading(OLD, MARKS[1], MARKS[4])
        self.assertEqual(~~one, one)
        self.assertEqual(~Reading.every(MEADOW, "p"), Reading.nothing(MEADOW, "p"))
        self.assertEqual(one & ~one, Reading.nothing(MEADOW, "p"))
        self.assertEqual(one | ~one, Reading.every(MEADOW, "p"))

    def test_clash(self):
        one = reading(OLD)
        for other in (Reading(MEADOW, "q", [OLD]), Reading(line_meadow(3), "p", [OLD])):
            for call in OPERATORS + (Reading.within,):
                self.check_error(Clash, None, call, one, other)
                self.check_error(Clash, None, call, other, one)
        self.assertEqual(one & Reading(line_meadow(2), "p", [OLD]), one)

    def test_equality(self):
        one = reading(OLD, MARKS[1])
        self.assertTrue(one == Reading(line_meadow(2), "p", [MARKS[1], OLD, OLD]))
        self.assertFalse(one != Reading(line_meadow(2), "p", [MARKS[1], OLD, OLD]))
        for other in (reading(OLD), Reading(line_meadow(3), "p", [OLD, MARKS[1]]), one.marks, None):
            self.assertFalse(one == other)
            self.assertTrue(one != other)
        self.assertFalse(Reading(MEADOW, "p", [OLD]) == Reading(MEADOW, "q", [OLD]))


if __name__ == "__main__":
    unittest.main()
