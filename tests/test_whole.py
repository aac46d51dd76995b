"""What point 2 promises over the whole program: arguments stay, tuples stand for lists, what is returned is new."""

import inspect
import unittest

from helpers import FIELDS
from tallgrass.asking import answers, half, question
from tallgrass.base import errors
from tallgrass.closing import closure, implied
from tallgrass.desk import desk, desktext, language
from tallgrass.field import days, fieldtext, meadow
from tallgrass.least import lots, movers, shortest, strikes
from tallgrass.notes import book, kinds, notetext, reading
from tallgrass.plain import counting, grassbook, leading, lyings, ordering, strangers, turned
from tallgrass.sides import face, side, unlike
from tallgrass.sweep import judging, papers, sweeping
from tallgrass.where import places, stations
from test_interface import ERRORS, FILES

PATHS = [("p", "a", "b"), ("q", "b", "c")]
MEADOW = meadow.Meadow.grassy(2, ["a", "b", "c"], ["r", "s"], PATHS)
DAY = days.Day(MEADOW, {"r": "a", "s": "b"}, [(1, "r", "p", "b"), (1, "s", "q", "c"), (2, "r", "p", "a")])
HOMES = {"r": "a", "s": "c"}
SHOWS = ("shows", "p", [(2, "r", "p", "a"), (1, "r", "p", "a"), (1, "r", "p", "a")])
START = ("start", "r", ["c", "b"])
BOOK = book.Book(MEADOW, HOMES, SHOWS, ("at", "r", "b", 1))
BAD = book.Book(MEADOW, HOMES, SHOWS, ("off", "r", "p", 1), START)
ASKED = question.Question(MEADOW, SHOWS) & ~question.Question(MEADOW, START)
LEFT = side.Side(BOOK, "c", ["s"])
RIGHT = side.Side(book.Book(meadow.Meadow.grassy(2, ["c", "z"], ["r", "s"], [("t", "c", "z")]), {"r": "c", "s": "z"}), "c", ["r"])
LATER = side.Side(BOOK + ("off", "r", "q", 2), "c", ["s"])
HALF = half.Half(MEADOW, {"r": ["b", "a", "a"], "s": ["c"]}, SHOWS)
TABLE = {"p": 2, "q": 1}
LYING, OUT = {"p": "a", "q": "b"}, {"p": "b", "q": "c"}
TOLD = {"morning": {"p": "b"}, "starts": {"r": "b"}}


def new_desk():
    one = desk.Desk(MEADOW, HOMES)
    one.together([SHOWS, ("at", "r", "b", 1)])
    one.tell(START)
    one.undo()
    return one


def made():
    """A new object of each class, with what its methods are called with."""
    sides = [("off", "r", "p", 2), ("on", "r", "p", 1)]
    return [
        ("Meadow", MEADOW, {"ends": ["p"], "across": ["p", "a"], "paths_at": ["b"], "gate": ["r", "p"], "watching": ["r", "p"],
                            "all_marks": ["p"]}),
        ("Day", DAY, {"start": ["r"], "home": ["r"], "starts": [], "homes": [], "placing": [1], "where": ["r", 1], "shown": ["p"],
                      "last": ["p"], "__iter__": [], "__len__": [], "__add__": [(2, "s", "q", "b")]}),
        ("Reading", book.Book(MEADOW, HOMES, SHOWS).allowed("p"), {
            "within": [reading.Reading.every(MEADOW, "p")], "as_note": [], "__invert__": [], "__iter__": [], "__len__": [],
            "__contains__": [meadow.OLD], "__and__": [reading.Reading.every(MEADOW, "p")],
            "__or__": [reading.Reading.nothing(MEADOW, "p")], "__sub__": [reading.Reading(MEADOW, "p", [(1, "r", "p", "a")])],
            "__xor__": [reading.Reading.every(MEADOW, "p")]}),
        ("Book", BOOK, {"home": ["r"], "homes": [], "fits": [DAY], "broken": [DAY], "allowed": ["p"], "may_start": ["r"],
                        "gate": ["r", "p"], "must": ["p"], "__add__": [START], "__sub__": [SHOWS], "__and__": [BAD],
                        "__iter__": [], "__len__": [], "__contains__": [("at", "r", "b", 1)]}),
        ("Sweep", sweeping.sweep(BOOK), {"late": ["p"], "lates": [], "freed": [1], "passable": ["r", "p", 1], "reach": ["r", 1]}),
        ("Question", ASKED, {"__call__": [DAY], "text": [], "__and__": [ASKED], "__or__": [ASKED], "__invert__": []}),
        ("Half", HALF, {"books": [], "homes_that_fit": [], "answer": [ASKED], "parting": [ASKED]}),
        ("Closure", closure.closure(BOOK), {
            "marks_of": ["p"], "starts_of": ["r"], "at": ["r", "b"], "away": ["r", "b"], "on": ["r", "p"], "off": ["r", "p"],
            "later": ["p", "q"], "as_notes": []}),
        ("Side", LEFT, {"__add__": [RIGHT]}),
        ("Face", face.face(LEFT), {"ok": [{"s": 1}], "coming": [{"s": 1}]}),
        ("Desk", new_desk(), {
            "current": [], "sound": [], "tell": [START], "together": [[START, *sides]], "strike": [1], "undo": [], "redo": [],
            "set_limit": [4], "late": ["p"], "whereabouts": [1], "answer": [ASKED], "tried": [[START, *sides], ASKED], "lot": [],
            "strikes": [], "clash": [], "homes": []}),
    ]


# For each function of the interface, in a file of its own, arguments with which it returns.
CALLS = [
    (days, {"exchange": [DAY, 0]}),
    (fieldtext, {"meadow_text": [MEADOW], "read_meadow": [fieldtext.meadow_text(MEADOW)], "day_text": [DAY],
                 "read_day": [MEADOW, fieldtext.day_text(DAY)]}),
    (kinds, {"normal_note": [MEADOW, SHOWS], "opposite": [MEADOW, START], "holds": [DAY, SHOWS], "marks_where": [MEADOW, "p"]}),
    (book, {"exact_book": [DAY]}),
    (notetext, {"note_text": [MEADOW, SHOWS], "read_note": [MEADOW, "start r c a"], "book_text": [BOOK],
                "read_book": [MEADOW, notetext.book_text(BOOK)]}),
    (sweeping, {"sweep": [BOOK], "sweep_table": [BOOK]}),
    (papers, {"some_day_fits": [BOOK], "failing": [BAD], "day_for": [BOOK], "ceiling_for": [BAD]}),
    (judging, {"is_ceiling": [BOOK, TABLE], "bars": [BAD, TABLE]}),
    (places, {"whereabouts": [BOOK, 1], "can_be": [BOOK, "r", "b", 1], "latest_at": [BOOK, "r", "b"], "latest_on": [BOOK, "r", "p"],
              "meeting_places": [BOOK, ["s", "r"], 1], "latest_meeting": [BOOK, ["s", "r"]]}),
    (stations, {"day_through": [BOOK, [(1, {"r": "b"}), (2, {})]]}),
    (answers, {"possible": [BOOK, ASKED], "answer": [BOOK, ASKED], "parting": [BOOK, ASKED], "books_for": [BOOK, ASKED]}),
    (implied, {"implies": [BOOK, BAD], "same_days": [BOOK, BAD], "parting_day": [BOOK, BAD], "needless": [BOOK], "thinned": [BOOK]}),
    (closure, {"closure": [BOOK], "is_small": [MEADOW]}),
    (lots, {"lot": [BAD], "is_lot": [BAD, lots.lot(BAD)]}),
    (strikes, {"fewest_strikes": [BAD], "judge_strikes": [BAD, *strikes.fewest_strikes(BAD)]}),
    (shortest, {"fewest_goings": [book.exact_book(DAY)], "shortest_day": [book.exact_book(DAY)],
                "fitting_days": [book.Book(MEADOW, HOMES), 1]}),
    (movers, {"can_alone": [BOOK, ["s", "r"]], "least_movers": [BOOK]}),
    (face, {"face": [LEFT], "coming_hours": [face.face(LEFT), face.face(RIGHT)], "faces_fit": [face.face(LEFT), face.face(RIGHT)]}),
    (unlike, {"same_face": [face.face(LEFT), face.face(LATER)], "parting_side": [LEFT, LATER]}),
    (leading, {"leading_home": [MEADOW, OUT, ["b", "a", "b"]], "is_untrodden": [MEADOW, OUT, ["a"], ["c", "c"]],
               "untrodden_sets": [MEADOW, OUT, ["a"]]}),
    (grassbook, {"grass_book": [MEADOW, HOMES, LYING], "plain_fits": [MEADOW, HOMES, LYING]}),
    (ordering, {"surely_later": [MEADOW, LYING, ["a"], "p", "q"], "way_past": [MEADOW, LYING, ["a"], "q", "p"],
                "later_pairs": [MEADOW, LYING, ["a"]], "last_paths": [MEADOW, LYING, ["a"]]}),
    (strangers, {"bottoms": [MEADOW, OUT], "company_suffices": [MEADOW, OUT, ["c", "a"]], "fewest_strangers": [MEADOW, OUT],
                 "least_companies": [MEADOW, OUT]}),
    (turned, {"fewest_turned": [MEADOW, OUT, ["a"]], "judge_turned": [MEADOW, OUT, ["a"], ["q", "p"], [["c"], ("b", "c")]]}),
    (lyings, {"paths_of_lying": [MEADOW, ["a"], LYING], "lying_of_paths": [MEADOW, ["a"], ["q", "p"]],
              "joined_with": [MEADOW, ["a"], ["q", "p"]]}),
    (counting, {"count_leading": [MEADOW, ["a"]], "count_by_leading": [MEADOW, ["a"]], "evenings": [MEADOW, HOMES],
                "count_evenings": [MEADOW, HOMES]}),
    (desktext, {"desk_text": [new_desk()], "read_desk": [MEADOW, desktext.desk_text(new_desk())]}),
    (language, {"run_lines": [new_desk(), "lot\nsound\nstrike 9"]}),
]
NAMED = {"marks_where": {"walker": "r", "first": 2, "old": True}, "grass_book": TOLD, "plain_fits": TOLD, "evenings": TOLD,
         "count_evenings": TOLD}

# The classes, with the arguments from which an object is made.
CLASSES = [
    (meadow.Meadow, [2, ["b", "a"], ["s", "r"], [("p", "b", "a")]],
     {"gates": [("r", "p", 1)], "signs": [("u", ["s", "r"], ["p"])]}),
    (meadow.Meadow.grassy, [2, ["b", "a"], ["s", "r"], [("p", "b", "a")]], {}),
    (days.Day, [MEADOW, {"r": "a", "s": "b"}, [(1, "r", "p", "b"), (1, "s", "q", "c")]], {}),
    (reading.Reading, [MEADOW, "p", [meadow.OLD, (1, "r", "p", "a"), meadow.OLD]], {}),
    (book.Book, [MEADOW, dict(HOMES), SHOWS, START], {}),
    (book.Book.made, [MEADOW, dict(HOMES), [SHOWS, START]], {}),
    (question.Question, [MEADOW, SHOWS], {}),
    (half.Half, [MEADOW, {"r": ["b", "a", "b"], "s": ["c"]}, SHOWS, START], {}),
    (side.Side, [BOOK, "c", ["s"]], {}),
    (desk.Desk, [MEADOW, dict(HOMES)], {}),
]


def told(value):
    """All that a value tells, as numbers, strings, lists and tuples."""
    if isinstance(value, (list, tuple)):
        return type(value)(told(item) for item in value)
    if isinstance(value, dict):
        return ("dict", sorted((key, told(value[key])) for key in value))
    if value is None or isinstance(value, (int, str)):
        return value
    return (type(value).__name__, *[told(item) for item in TELLERS[type(value).__name__](value)])


TELLERS = {
    "Meadow": lambda one: (one.hours, one.places, one.walkers, one.paths, one.gates, one.signs),
    "Day": lambda one: (one.meadow, one.starts(), one.goings, one.homes()),
    "Reading": lambda one: (one.meadow, one.sign, one.marks),
    "Book": lambda one: (one.meadow, one.homes(), one.notes),
    "Sweep": lambda one: (one.book, one.order, one.lates()),
    "Question": lambda one: (one.meadow, one.notes, one.operators, one.text()),
    "Half": lambda one: (one.books(), one.homes_that_fit()),
    "Closure": lambda one: (one.book, one.as_notes()),
    "Side": lambda one: (one.book, one.place, one.outsiders, one.residents),
    "Face": lambda one: (one.hours, one.walkers, one.outsiders, one.residents, one.rows),
    "Desk": lambda one: (one.meadow, one.homes(), one.standing, one.limit, desktext.desk_text(one)),
}


def with_tuples(value):
    """The value with a tuple in the place of each list."""
    if isinstance(value, (list, tuple)):
        return tuple(with_tuples(item) for item in value)
    if isinstance(value, dict):
        return {key: with_tuples(value[key]) for key in value}
    return value


def wreck(value):
    """Empties all lists and dicts of a value."""
    if isinstance(value, (list, tuple)):
        for item in value:
            wreck(item)
    if isinstance(value, dict):
        for key in value:
            wreck(value[key])
    if isinstance(value, (list, dict)):
        value.clear()


def copied(value):
    """The value with lists and dicts of its own."""
    if isinstance(value, (list, tuple)):
        return type(value)(copied(item) for item in value)
    if isinstance(value, dict):
        return {key: copied(value[key]) for key in value}
    return value


def result(call, args, named):
    found = call(*args, **named)
    return list(found) if inspect.isgenerator(found) or type(found).__name__ == "tuple_iterator" else found


class Whole(unittest.TestCase):
    maxDiff = None

    def test_every_function_is_called_here(self):
        """No function and no method of the interface is forgotten below."""
        methods = {name: calls for name, _, calls in made()}
        for file, names in FILES.items():
            called = [calls for module, calls in CALLS if module.__name__ == file]
            for name, expected in names.items():
                if isinstance(expected, str):
                    self.assertIn(name, called[0])
                else:
                    kept = {method for method, signature in expected.items() if signature != "property"}
                    self.assertLessEqual(kept - {"__init__", "__eq__", "made", "grassy", "every", "nothing", "read", "old"},
                                         set(methods[name]), name)

    def calls(self):
        for module, functions in CALLS:
            for name, args in functions.items():
                yield name, getattr(module, name), args, NAMED.get(name, {})

    def test_functions(self):
        for name, call, args, named in self.calls():
            with self.subTest(name=name):
                self.check_call(lambda: call, args, named)

    def test_methods(self):
        for at, (kind, _, methods) in enumerate(made()):
            for name, args in methods.items():
                with self.subTest(kind=kind, name=name):
                    self.check_call(lambda: getattr(made()[at][1], name), args, {})

    def check_call(self, call, args, named):
        """Calls a function, or a method of a new object each time, in several ways."""
        args, named = copied(args), copied(named)
        before = told([args, named])
        first = told(result(call(), args, named))
        self.assertEqual(told([args, named]), before)
        self.assertEqual(told(result(call(), with_tuples(args), with_tuples(named))), first)
        same = call()
        found = result(same, args, named)
        self.assertEqual(told(found), first)
        wreck(found)
        self.assertEqual(told([args, named]), before)
        self.assertEqual(told(result(call(), args, named)), first)

    def test_objects_are_left_as_they_were(self):
        """What the methods return can be emptied without an effect on the object."""
        for kind, one, methods in made():
            before = told(one)
            for name, args in methods.items():
                if (kind, name) not in [("Desk", word) for word in ("tell", "together", "strike", "undo", "redo", "set_limit")]:
                    args = copied(args)
                    found = result(getattr(one, name), args, {})
                    kept = told(found)
                    wreck(found)
                    self.assertEqual(told(one), before, (kind, name))
                    self.assertEqual(told(result(getattr(one, name), args, {})), kept, (kind, name))

    def test_objects_copy_their_arguments(self):
        for call, args, named in CLASSES:
            with self.subTest(name=call.__qualname__):
                args, named = copied(args), copied(named)
                before = told([args, named])
                one = call(*args, **named)
                found = told(one)
                self.assertEqual(told([args, named]), before)
                self.assertEqual(told(call(*with_tuples(args), **with_tuples(named))), found)
                wreck(args)
                wreck(named)
                self.assertEqual(told(one), found)

    def test_errors(self):
        """Each error derives directly from the base class, and keeps its one argument."""
        self.assertEqual(sorted(FIELDS, key=lambda error: error.__name__), sorted(
            (getattr(errors, name) for name in ERRORS if name != "GrassError"), key=lambda error: error.__name__))
        self.assertEqual(errors.GrassError.__bases__, (ValueError,))
        for error, field in FIELDS.items():
            self.assertEqual(error.__bases__, (errors.GrassError,))
            if field is None:
                self.assertIsInstance(error(), errors.GrassError)
            else:
                self.assertEqual(getattr(error(7), field), 7)


if __name__ == "__main__":
    unittest.main()
