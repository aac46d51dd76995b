"""The desk: points 70 and 71, and tallgrass/desk/desk.py."""

import random
import unittest

from helpers import GrassCase, all_at, line_meadow, meadow_of, small_meadows
from samples import random_note
from tallgrass.asking.answers import answer
from tallgrass.asking.question import Question
from tallgrass.base.errors import (BadMark, BadNote, BadNumber, BadPlacing, Clash, GrassError, NoDay, NotThere, TooLarge, TooMany,
                                   Twice, Unknown)
from tallgrass.desk.desk import Desk
from tallgrass.field.meadow import OLD
from tallgrass.least.lots import lot
from tallgrass.least.strikes import fewest_strikes
from tallgrass.notes.book import Book
from tallgrass.notes.kinds import normal_note
from tallgrass.sweep.papers import some_day_fits
from tallgrass.sweep.sweeping import sweep
from tallgrass.where.places import whereabouts

MEADOW = line_meadow(3)
HOMES = {"r": "a", "s": "c"}
NOTES = [("at", "r", place, hour) for place in "abc" for hour in (1, 2, 3)]
NOTES += [("at", "s", place, hour) for place in "abc" for hour in (1, 2, 3)]
NOTES += [("on", "r", path, hour) for path in "pq" for hour in (1, 2, 3)]
WAS_AT_B = Question(MEADOW, ("at", "r", "b", 1))


def desk_with(*notes):
    desk = Desk(MEADOW, HOMES)
    for note in notes:
        desk.tell(note)
    return desk


def seen(desk):
    """The state of a desk, and all states to which undo and redo would lead; the desk is as it was behind that."""
    back, ahead = [], []
    while True:
        try:
            desk.undo()
        except NotThere:
            break
        back.append(desk.standing)
    for _ in back:
        desk.redo()
    while True:
        try:
            desk.redo()
        except NotThere:
            break
        ahead.append(desk.standing)
    for _ in ahead:
        desk.undo()
    return (desk.standing, back, ahead, desk.limit)


class Made(GrassCase):
    def test_a_new_desk(self):
        desk = Desk(MEADOW, HOMES)
        self.assertEqual((desk.meadow, desk.homes(), desk.standing, desk.limit), (MEADOW, HOMES, (), 20))
        self.assertEqual(desk.current(), Book(MEADOW, HOMES))
        self.check_error(NotThere, 0, desk.undo)
        self.check_error(NotThere, 0, desk.redo)
        self.check_error(NotThere, 1, desk.strike, 1)

    def test_homes(self):
        for name, homes in (("r", {}), ("s", {"r": "a"}), ("r", {"r": "p", "x": "a"}), ("a", {**HOMES, "a": "a"}),
                            ("x", {**HOMES, "x": "a"})):
            self.check_error(BadPlacing, name, Desk, MEADOW, homes)

    def test_arguments_are_copied(self):
        homes, marks = dict(HOMES), [OLD, (1, "r", "p", "a")]
        desk = Desk(MEADOW, homes)
        notes = [("shows", "p", marks)]
        self.assertEqual(desk.together(notes), [1])
        self.assertEqual((homes, marks, notes), (HOMES, [OLD, (1, "r", "p", "a")], [("shows", "p", marks)]))
        homes["r"] = "c"
        marks.clear()
        notes.clear()
        self.assertEqual(desk.current(), Book(MEADOW, HOMES, ("shows", "p", [OLD, (1, "r", "p", "a")])))

    def test_what_is_returned_is_new(self):
        desk = desk_with(*NOTES[:2])
        desk.homes()["r"] = "b"
        desk.homes().clear()
        desk.whereabouts(3)["r"].clear()
        desk.together(NOTES[2:4]).clear()
        self.assertEqual((desk.homes(), desk.whereabouts(3)["r"]), (HOMES, ["a", "b", "c"]))
        self.assertEqual([number for number, _ in desk.standing], [1, 2, 3, 4])
        desk.tell(("start", "r", []))
        desk.lot().clear()
        self.assertEqual(desk.lot(), [5])


class Told(GrassCase):
    def test_numbers_and_normal_forms(self):
        desk = Desk(MEADOW, HOMES)
        self.assertEqual(desk.tell(("start", "r", ["b", "a", "b"])), 1)
        self.assertEqual(desk.tell(("shows", "q", [(1, "s", "q", "c"), OLD, OLD])), 2)
        self.assertEqual(desk.tell(("at", "r", "b", 1)), 3)
        self.assertEqual(desk.standing, ((1, ("start", "r", ("a", "b"))), (2, ("shows", "q", (OLD, (1, "s", "q", "c")))),
                                         (3, ("at", "r", "b", 1))))
        self.assertEqual(desk.current(), Book(MEADOW, HOMES, *[note for _, note in desk.standing]))

    def test_the_order_of_the_checks(self):
        desk = desk_with(("start", "r", ["a", "b"]))
        desk.limit = 1
        self.check_error(BadNote, ("stop", "r"), desk.tell, ("stop", "r"))
        self.check_error(BadNote, (), desk.tell, ())
        self.check_error(Unknown, "x", desk.tell, ("at", "x", "y", 9))
        self.check_error(Unknown, "y", desk.tell, ("start", "r", ["y"]))
        self.check_error(BadMark, (9, "r", "p", "a"), desk.tell, ("shows", "p", [(9, "r", "p", "a")]))
        self.check_error(BadNumber, 4, desk.tell, ("at", "r", "a", 4))
        self.check_error(BadNote, ("later", "p", "p"), desk.tell, ("later", "p", "p"))
        self.check_error(Twice, ("start", "r", ("a", "b")), desk.tell, ("start", "r", ["b", "a"]))
        self.check_error(TooMany, 1, desk.tell, ("start", "r", ["b"]))
        self.assertEqual(desk.standing, ((1, ("start", "r", ("a", "b"))),))
        desk.limit = 2
        self.assertEqual(desk.tell(("start", "r", ["b"])), 2)

    def test_a_struck_note_can_be_told_again(self):
        desk = desk_with(NOTES[0], NOTES[1])
        self.assertEqual(desk.strike(1), NOTES[0])
        self.assertEqual(desk.tell(NOTES[0]), 3)
        self.assertEqual(desk.standing, ((2, NOTES[1]), (3, NOTES[0])))

    def test_twenty_notes(self):
        desk = desk_with(*NOTES[:20])
        self.check_error(TooMany, 20, desk.tell, NOTES[20])
        self.check_error(Twice, NOTES[3], desk.tell, NOTES[3])
        desk.strike(20)
        self.assertEqual(desk.tell(NOTES[20]), 21)
        self.check_error(TooMany, 20, desk.tell, NOTES[21])

    def test_nine_hundred_numbers(self):
        desk = Desk(MEADOW, HOMES)
        for number in range(1, 901):
            self.assertEqual(desk.tell(NOTES[number % 2]), number)
            if number < 900:
                desk.strike(number)
        self.check_error(TooMany, 900, desk.tell, NOTES[2])
        self.check_error(TooMany, 900, desk.together, [NOTES[2], NOTES[3]])
        self.check_error(TooMany, 900, desk.tried, [NOTES[2]], WAS_AT_B)
        self.check_error(Twice, NOTES[0], desk.tell, NOTES[0])
        self.check_error(Unknown, "x", desk.tell, ("start", "x", []))
        desk.limit = 1
        self.check_error(TooMany, 1, desk.tell, NOTES[2])
        self.assertEqual(desk.together([]), [])
        desk.limit = 20
        desk.undo()
        self.check_error(TooMany, 900, desk.together, [NOTES[2], NOTES[3]])
        self.assertEqual(desk.together([NOTES[3]]), [900])
        self.assertEqual(desk.standing, ((900, NOTES[3]),))


class Together(GrassCase):
    def test_one_step(self):
        desk = desk_with(NOTES[0])
        self.assertEqual(desk.together([NOTES[2], NOTES[1]]), [2, 3])
        self.assertEqual(desk.standing, ((1, NOTES[0]), (2, NOTES[2]), (3, NOTES[1])))
        desk.undo()
        self.assertEqual(desk.standing, ((1, NOTES[0]),))
        desk.redo()
        self.assertEqual(len(desk.standing), 3)
        self.assertEqual(desk.tell(NOTES[3]), 4)
        self.assertEqual(desk.together((NOTES[4],)), [5])

    def test_a_refused_note(self):
        desk = desk_with(NOTES[0], NOTES[1])
        desk.undo()
        before = seen(desk)
        for error, field, notes in [
                (Unknown, "x", [NOTES[2], ("at", "x", "a", 1), NOTES[2]]), (Twice, NOTES[2], [NOTES[2], NOTES[3], NOTES[2]]),
                (Twice, NOTES[0], [NOTES[2], NOTES[0], ("no",)]), (BadNote, ("no",), [("no",), NOTES[0]]),
                (Twice, ("start", "r", ("a", "b")), [("start", "r", ["a", "b"]), ("start", "r", ["b", "a"])]),
                (TooMany, 20, NOTES[1:21]), (TooMany, 20, NOTES[1:21] + [NOTES[1]]), (Twice, NOTES[1], NOTES[1:20] + [NOTES[1]])]:
            self.check_error(error, field, desk.together, notes)
            self.check_error(error, field, desk.tried, notes, WAS_AT_B)
            self.assertEqual(seen(desk), before)
        self.assertEqual(desk.together(NOTES[1:20]), list(range(2, 21)))

    def test_the_empty_list_is_no_step(self):
        desk = desk_with(NOTES[0], NOTES[1])
        desk.undo()
        before = seen(desk)
        self.assertEqual(desk.together([]), [])
        self.assertEqual(seen(desk), before)
        desk.redo()
        self.assertEqual(desk.together(()), [])
        desk.undo()
        self.assertEqual(desk.standing, ((1, NOTES[0]),))


class Steps(GrassCase):
    def test_strike(self):
        desk = desk_with(("start", "r", ["b", "a"]), NOTES[1], NOTES[2])
        self.assertEqual(desk.strike(1), ("start", "r", ("a", "b")))
        for number in (0, 1, 4, -1, 1000):
            self.check_error(NotThere, number, desk.strike, number)
        self.assertEqual(desk.standing, ((2, NOTES[1]), (3, NOTES[2])))
        desk.strike(3)
        self.assertEqual(desk.tell(NOTES[3]), 4)

    def test_undo_and_redo(self):
        desk = desk_with(NOTES[0], NOTES[1])
        desk.strike(1)
        states = [((2, NOTES[1]),), ((1, NOTES[0]), (2, NOTES[1])), ((1, NOTES[0]),), ()]
        self.assertEqual(desk.standing, states[0])
        for state in states[1:]:
            self.assertIsNone(desk.undo())
            self.assertEqual(desk.standing, state)
        self.check_error(NotThere, 0, desk.undo)
        for state in states[2::-1]:
            self.assertIsNone(desk.redo())
            self.assertEqual(desk.standing, state)
        self.check_error(NotThere, 0, desk.redo)
        self.assertEqual(desk.standing, states[0])

    def test_undo_brings_the_next_number_back(self):
        desk = desk_with(NOTES[0], NOTES[1])
        desk.undo()
        self.assertEqual(desk.tell(NOTES[2]), 2)
        desk.undo()
        desk.undo()
        self.assertEqual(desk.tell(NOTES[3]), 1)

    def test_a_new_step_forgets_the_undone_ones(self):
        desk = desk_with(NOTES[0], NOTES[1])
        desk.undo()
        desk.tell(NOTES[2])
        self.check_error(NotThere, 0, desk.redo)
        desk.undo()
        desk.strike(1)
        self.check_error(NotThere, 0, desk.redo)
        desk.undo()
        desk.together([NOTES[4]])
        self.check_error(NotThere, 0, desk.redo)
        self.assertEqual(desk.standing, ((1, NOTES[0]), (2, NOTES[4])))

    def test_what_is_refused_forgets_nothing(self):
        desk = desk_with(NOTES[0], NOTES[1], NOTES[2])
        desk.undo()
        desk.undo()
        before = seen(desk)
        self.check_error(Twice, NOTES[0], desk.tell, NOTES[0])
        self.check_error(NotThere, 2, desk.strike, 2)
        self.check_error(BadNumber, 21, desk.set_limit, 21)
        self.assertEqual(seen(desk), before)
        desk.redo()
        desk.redo()
        self.assertEqual(len(desk.standing), 3)

    def test_all_kinds_of_steps(self):
        """A long row of steps beside a list of the states that were."""
        rng = random.Random(51)
        for _ in range(20):
            desk, states, at = Desk(MEADOW, HOMES), [(1, ())], 0
            for _ in range(80):
                deed = rng.choice(["tell", "tell", "together", "strike", "undo", "redo"])
                number, standing = states[at]
                notes = rng.sample(NOTES, 1 if deed == "tell" else rng.randint(0, 3))
                if deed in ("tell", "together"):
                    told = [note for _, note in standing]
                    if len(told) + len(notes) > 20 or any(note in told for note in notes):
                        with self.assertRaises((Twice, TooMany)):
                            desk.together(notes)
                    else:
                        found = [desk.tell(notes[0])] if deed == "tell" else desk.together(notes)
                        self.assertEqual(found, list(range(number, number + len(notes))))
                        if notes:
                            states[at + 1:] = [(number + len(notes), standing + tuple(zip(found, notes)))]
                            at += 1
                elif deed == "strike" and standing:
                    row = rng.choice(standing)
                    self.assertEqual(desk.strike(row[0]), row[1])
                    states[at + 1:] = [(number, tuple(one for one in standing if one != row))]
                    at += 1
                elif deed == "undo":
                    at = self.moved(desk.undo, at > 0, at, at - 1)
                elif deed == "redo":
                    at = self.moved(desk.redo, at + 1 < len(states), at, at + 1)
                self.assertEqual(desk.standing, states[at][1])

    def moved(self, call, fits, at, then):
        if fits:
            call()
            return then
        self.check_error(NotThere, 0, call)
        return at


class Limit(GrassCase):
    def test_bounds(self):
        desk = Desk(MEADOW, HOMES)
        for number in (0, 20, 7):
            desk.limit = number
            self.assertEqual(desk.limit, number)
        for number in (20, 0, 1):
            self.assertIsNone(desk.set_limit(number))
            self.assertEqual(desk.limit, number)
        for number in (-1, 21, 1000):
            self.check_error(BadNumber, number, desk.set_limit, number)
            self.check_error(BadNumber, number, setattr, desk, "limit", number)
            self.assertEqual(desk.limit, 1)

    def test_it_bounds_the_standing_notes(self):
        desk = Desk(MEADOW, HOMES)
        desk.limit = 0
        self.check_error(TooMany, 0, desk.tell, NOTES[0])
        self.check_error(TooMany, 0, desk.together, [NOTES[0]])
        self.assertEqual(desk.together([]), [])
        desk.limit = 2
        self.check_error(TooMany, 2, desk.together, NOTES[:3])
        self.assertEqual(desk.together(NOTES[:2]), [1, 2])
        self.check_error(TooMany, 2, desk.tell, NOTES[2])
        desk.strike(1)
        self.assertEqual(desk.tell(NOTES[2]), 3)

    def test_it_can_be_below_the_number_of_standing_notes(self):
        desk = desk_with(*NOTES[:5])
        desk.limit = 3
        self.assertEqual(len(desk.standing), 5)
        self.check_error(TooMany, 3, desk.tell, NOTES[5])
        self.check_error(Twice, NOTES[4], desk.tell, NOTES[4])
        desk.strike(1)
        desk.strike(2)
        self.check_error(TooMany, 3, desk.tell, NOTES[5])
        desk.strike(3)
        self.assertEqual(desk.tell(NOTES[5]), 6)
        for _ in range(4):
            desk.undo()
        self.assertEqual((len(desk.standing), desk.limit), (5, 3))

    def test_it_is_no_step_and_no_undo_changes_it(self):
        desk = desk_with(NOTES[0], NOTES[1])
        desk.undo()
        desk.limit = 1
        desk.redo()
        self.assertEqual((len(desk.standing), desk.limit), (2, 1))
        desk.set_limit(5)
        desk.undo()
        desk.undo()
        self.assertEqual((desk.standing, desk.limit), ((), 5))
        desk.redo()
        self.assertEqual((len(desk.standing), desk.limit), (1, 5))


class Says(GrassCase):
    def test_a_sound_desk(self):
        desk = desk_with(("shows", "p", [(2, "r", "p", "a")]), ("away", "s", "b", 1))
        self.assertIs(desk.sound(), True)
        self.assertEqual((desk.late("p"), desk.late("q")), (2, 2))
        self.assertEqual(desk.whereabouts(2), {"r": ["a", "b", "c"], "s": ["c"]})
        self.assertEqual((desk.answer(WAS_AT_B), desk.answer(~WAS_AT_B)), ("surely", "never"))
        self.assertEqual((desk.lot(), desk.strikes(), desk.clash()), (None, [], None))

    def test_a_desk_that_is_not_sound(self):
        desk = desk_with(("on", "r", "p", 3), ("on", "r", "q", 1), ("off", "r", "p", 2), ("start", "s", []))
        desk.strike(2)
        self.assertIs(desk.sound(), False)
        self.assertEqual(desk.answer(WAS_AT_B), "no day")
        self.assertEqual((desk.lot(), desk.strikes(), desk.clash()), ([4], [3, 4], 3))
        desk.strike(4)
        self.assertEqual((desk.lot(), desk.strikes(), desk.clash()), ([1, 3], [3], 3))
        self.check_error(NoDay, None, desk.whereabouts, 1)
        self.assertEqual(desk.late("p"), 3)

    def test_no_notes(self):
        desk = Desk(MEADOW, HOMES)
        self.assertEqual((desk.sound(), desk.lot(), desk.strikes(), desk.clash()), (True, None, [], None))
        self.assertEqual(desk.answer(WAS_AT_B), "perhaps")

    def test_errors_of_the_functions(self):
        desk = desk_with(*NOTES[:8])
        self.check_error(Unknown, "x", desk.late, "x")
        self.check_error(Unknown, "r", desk.late, "r")
        for hour in (0, 4):
            self.check_error(BadNumber, hour, desk.whereabouts, hour)
        self.check_error(TooMany, 7, desk.strikes)
        other = Question(line_meadow(2), ("at", "r", "b", 1))
        self.check_error(Clash, None, desk.answer, other)
        self.check_error(Clash, None, desk.tried, [NOTES[8]], other)
        five = WAS_AT_B
        for note in NOTES[4:8]:
            five = five & Question(MEADOW, note)
        self.check_error(TooMany, 4, desk.answer, five)
        self.check_error(TooMany, 4, desk.tried, NOTES[8:16], five)
        self.check_error(TooMany, 16, desk.tried, NOTES[8:17], five)
        desk.together(NOTES[8:16])
        self.assertEqual(desk.answer(WAS_AT_B), "surely")
        desk.tell(NOTES[16])
        self.check_error(TooMany, 16, desk.answer, five)
        self.check_error(Clash, None, desk.answer, other)
        desk.tell(("start", "r", []))
        self.check_error(BadNumber, 0, desk.whereabouts, 0)
        self.check_error(NoDay, None, desk.whereabouts, 1)
        self.assertEqual(desk.lot(), [18])

    def test_a_meadow_that_is_not_small(self):
        meadow = meadow_of(hours=4)
        desk = Desk(meadow, all_at(meadow, "a"))
        self.check_error(TooLarge, None, desk.strikes)
        desk.together([("at", "r", "b", 1), ("start", "r", [])])
        self.assertEqual((desk.lot(), desk.clash(), desk.sound()), ([2], 2, False))
        desk.together([("at", "r", place, hour) for place in "cd" for hour in (1, 2, 3)])
        self.check_error(TooLarge, None, desk.strikes)

    def test_the_functions_behind_it(self):
        rng = random.Random(52)
        found = []
        for _ in range(150):
            meadow = rng.choice(small_meadows())
            homes = {walker: rng.choice(meadow.places) for walker in meadow.walkers}
            desk = Desk(meadow, homes)
            self.fill(desk, rng)
            book = Book(meadow, homes, *[note for _, note in desk.standing])
            question = Question(meadow, random_note(meadow, rng)) | ~Question(meadow, random_note(meadow, rng))
            number = {note: number for number, note in desk.standing}
            fits = some_day_fits(book)
            self.assertEqual(desk.current(), book)
            self.assertIs(desk.sound(), fits)
            self.assertEqual({sign: desk.late(sign) for sign, *_ in meadow.signs}, sweep(book).lates())
            self.assertEqual(desk.answer(question), answer(book, question))
            self.assertEqual(desk.strikes(), sorted(number[note] for note in fewest_strikes(book)[0]))
            if fits:
                self.assertEqual(desk.whereabouts(1), whereabouts(book, 1))
                self.assertEqual((desk.lot(), desk.clash()), (None, None))
            else:
                self.check_error(NoDay, None, desk.whereabouts, 1)
                self.assertEqual(desk.lot(), sorted(number[note] for note in lot(book)))
                prefixes = [one for one, _ in desk.standing if not some_day_fits(
                    Book(meadow, homes, *[note for other, note in desk.standing if other <= one]))]
                self.assertEqual(desk.clash(), prefixes[0])
            found.append(fits)
        self.assertGreater(min(found.count(True), found.count(False)), 30)

    def fill(self, desk, rng):
        """Tells up to seven notes, strikes some and goes back at times."""
        for _ in range(rng.randint(0, 10)):
            try:
                if len(desk.standing) < 7:
                    desk.tell(random_note(desk.meadow, rng))
                if rng.random() < 0.2:
                    desk.strike(rng.choice(desk.standing)[0])
                if rng.random() < 0.2:
                    desk.undo()
            except GrassError:
                continue

    def test_only_the_standing_notes_count(self):
        """Another desk, on which the same notes came in another order and others went, says the same."""
        rng = random.Random(53)
        for _ in range(60):
            notes = list(dict.fromkeys(normal_note(MEADOW, random_note(MEADOW, rng)) for _ in range(6)))
            one, two = desk_with(*notes), Desk(MEADOW, HOMES)
            two.tell(notes[2])
            two.together([notes[0], notes[1]])
            two.strike(1)
            two.undo()
            two.undo()
            two.together([notes[-1]])
            two.undo()
            two.strike(1)
            two.together(rng.sample(notes, len(notes)))
            self.assertEqual(one.current(), two.current())
            self.assertEqual((one.sound(), one.late("p"), one.answer(WAS_AT_B)), (two.sound(), two.late("p"), two.answer(WAS_AT_B)))
            self.assertEqual(self.notes(one, one.strikes()), self.notes(two, two.strikes()))
            if not one.sound():
                self.assertEqual(self.notes(one, one.lot()), self.notes(two, two.lot()))

    def notes(self, desk, numbers):
        self.assertEqual(numbers, sorted(numbers))
        return sorted(dict(desk.standing)[number] for number in numbers)


class Tried(GrassCase):
    def test_the_answer_behind_together(self):
        desk = desk_with(("shows", "q", [OLD]))
        self.assertEqual(desk.answer(WAS_AT_B), "perhaps")
        for notes, expected in (([], "perhaps"), ([("on", "r", "p", 1)], "surely"), ([("off", "r", "p", 1)], "never"),
                                ([("off", "r", "p", 1), ("on", "r", "p", 1)], "no day"), ((("start", "r", ["b"]),), "surely")):
            before = seen(desk)
            self.assertEqual(desk.tried(notes, WAS_AT_B), expected)
            self.assertEqual(seen(desk), before)
            desk.together(notes)
            self.assertEqual(desk.answer(WAS_AT_B), expected)
            if notes:
                desk.undo()

    def test_the_desk_stays(self):
        desk = desk_with(NOTES[0], NOTES[1], NOTES[2])
        desk.undo()
        before = seen(desk)
        notes = [NOTES[3], ("shows", "p", [OLD, OLD])]
        desk.tried(notes, WAS_AT_B)
        self.assertEqual(notes, [NOTES[3], ("shows", "p", [OLD, OLD])])
        self.assertEqual(seen(desk), before)
        other = Question(line_meadow(2), ("at", "r", "b", 1))
        self.check_error(Clash, None, desk.tried, [NOTES[3]], other)
        self.check_error(Twice, NOTES[0], desk.tried, [NOTES[3], NOTES[0]], other)
        self.check_error(TooMany, 16, desk.tried, NOTES[2:17], WAS_AT_B)
        self.assertEqual(desk.tried(NOTES[2:16], WAS_AT_B), "surely")
        self.check_error(BadNote, (), desk.tried, [()], WAS_AT_B)
        desk.limit = 2
        self.check_error(TooMany, 2, desk.tried, [NOTES[3]], other)
        desk.limit = 20
        self.assertEqual(seen(desk), before)
        desk.redo()
        self.assertEqual(desk.tell(NOTES[3]), 4)


if __name__ == "__main__":
    unittest.main()
