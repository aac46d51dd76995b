"""Each name of the interface is defined in its file, and each method in its class."""

import ast
import importlib
import inspect
import unittest

ERRORS = ("GrassError BadName Unknown Twice BadPath BadPlacing BadNumber TooMany BadGoing OutOfReach BadMark BadNote "
          "NotThere BadLine Clash NoDay TooLarge").split()

TOLD = "*, morning=None, starts=None, trodden=False"

# The signatures of functions and methods; a class stands with its own parameters under __init__.
FILES = {
    "tallgrass.field.meadow": {
        "Meadow": {"__init__": "self, hours, places, walkers, paths, *, gates=(), signs=()",
                   "grassy": "hours, places, walkers, paths", "__eq__": "self, other", "ends": "self, path",
                   "across": "self, path, place", "paths_at": "self, place", "gate": "self, walker, path",
                   "watching": "self, walker, path", "all_marks": "self, sign"}},
    "tallgrass.field.days": {
        "Day": {"__init__": "self, meadow, starts, goings", "__len__": "self", "__iter__": "self",
                "__add__": "self, other", "__eq__": "self, other", "start": "self, walker", "home": "self, walker",
                "starts": "self", "homes": "self", "placing": "self, k", "where": "self, walker, hour",
                "shown": "self, sign", "last": "self, sign"},
        "exchange": "day, at"},
    "tallgrass.field.fieldtext": {
        "meadow_text": "meadow", "read_meadow": "text", "day_text": "day", "read_day": "meadow, text"},
    "tallgrass.notes.kinds": {
        "normal_note": "meadow, note", "opposite": "meadow, note", "holds": "day, note",
        "marks_where": "meadow, sign, **limits"},
    "tallgrass.notes.reading": {
        "Reading": {"__init__": "self, meadow, sign, marks", "every": "meadow, sign", "nothing": "meadow, sign",
                    "__and__": "self, other", "__or__": "self, other", "__sub__": "self, other",
                    "__xor__": "self, other", "__invert__": "self", "__contains__": "self, x", "__eq__": "self, other",
                    "__len__": "self", "__iter__": "self", "old": "property", "within": "self, other",
                    "as_note": "self"}},
    "tallgrass.notes.book": {
        "Book": {"__init__": "self, meadow, homes, *notes", "made": "meadow, homes, notes", "home": "self, walker",
                 "homes": "self", "__add__": "self, other", "__sub__": "self, other", "__and__": "self, other",
                 "__contains__": "self, x", "__len__": "self", "__iter__": "self", "__eq__": "self, other",
                 "fits": "self, day", "broken": "self, day", "allowed": "self, sign", "may_start": "self, walker",
                 "gate": "self, walker, path", "must": "self, sign"},
        "exact_book": "day"},
    "tallgrass.notes.notetext": {
        "note_text": "meadow, note", "read_note": "meadow, line", "book_text": "book", "read_book": "meadow, text"},
    "tallgrass.sweep.sweeping": {
        "Sweep": {"__init__": "self, book", "late": "self, sign", "lates": "self", "freed": "self, hour",
                  "passable": "self, walker, path, hour", "reach": "self, walker, hour"},
        "sweep": "book", "sweep_table": "book"},
    "tallgrass.sweep.papers": {
        "some_day_fits": "book", "failing": "book", "day_for": "book", "ceiling_for": "book"},
    "tallgrass.sweep.judging": {"is_ceiling": "book, table", "bars": "book, table"},
    "tallgrass.where.places": {
        "whereabouts": "book, hour", "can_be": "book, walker, place, hour", "latest_at": "book, walker, place",
        "latest_on": "book, walker, path", "meeting_places": "book, walkers, hour", "latest_meeting": "book, walkers"},
    "tallgrass.where.stations": {"day_through": "book, stations"},
    "tallgrass.asking.question": {
        "Question": {"__init__": "self, meadow, note", "__and__": "self, other", "__or__": "self, other",
                     "__invert__": "self", "__call__": "self, day", "text": "self", "read": "meadow, text"}},
    "tallgrass.asking.answers": {
        "possible": "book, question", "answer": "book, question", "parting": "book, question",
        "books_for": "book, question"},
    "tallgrass.asking.half": {
        "Half": {"__init__": "self, meadow, homes, *notes", "books": "self", "homes_that_fit": "self",
                 "answer": "self, question", "parting": "self, question"}},
    "tallgrass.closing.implied": {
        "implies": "book, other", "same_days": "book, other", "parting_day": "book, other", "needless": "book",
        "thinned": "book"},
    "tallgrass.closing.closure": {
        "Closure": {"__init__": "self, book", "marks_of": "self, sign", "starts_of": "self, walker",
                    "at": "self, walker, place", "away": "self, walker, place", "on": "self, walker, path",
                    "off": "self, walker, path", "later": "self, sign, other", "as_notes": "self",
                    "__eq__": "self, other"},
        "closure": "book", "is_small": "meadow"},
    "tallgrass.least.lots": {"lot": "book", "is_lot": "book, notes"},
    "tallgrass.least.strikes": {"fewest_strikes": "book", "judge_strikes": "book, struck, day, lots"},
    "tallgrass.least.shortest": {"fewest_goings": "book", "shortest_day": "book", "fitting_days": "book, most"},
    "tallgrass.least.movers": {"can_alone": "book, walkers", "least_movers": "book"},
    "tallgrass.sides.side": {
        "Side": {"__init__": "self, book, place, outsiders", "__add__": "self, other"}},
    "tallgrass.sides.face": {
        "Face": {"__init__": "self, side", "ok": "self, arrivals", "coming": "self, arrivals"},
        "face": "side", "coming_hours": "*faces", "faces_fit": "*faces"},
    "tallgrass.sides.unlike": {"same_face": "first, second", "parting_side": "first, second"},
    "tallgrass.plain.leading": {
        "leading_home": "meadow, lying, homes", "is_untrodden": "meadow, lying, homes, places",
        "untrodden_sets": "meadow, lying, homes"},
    "tallgrass.plain.grassbook": {
        "grass_book": "meadow, homes, lying, " + TOLD, "plain_fits": "meadow, homes, lying, " + TOLD},
    "tallgrass.plain.ordering": {
        "surely_later": "meadow, lying, homes, path, other", "way_past": "meadow, lying, homes, path, other",
        "later_pairs": "meadow, lying, homes", "last_paths": "meadow, lying, homes"},
    "tallgrass.plain.strangers": {
        "bottoms": "meadow, lying", "company_suffices": "meadow, lying, places", "fewest_strangers": "meadow, lying",
        "least_companies": "meadow, lying"},
    "tallgrass.plain.turned": {
        "fewest_turned": "meadow, lying, homes", "judge_turned": "meadow, lying, homes, paths, sets"},
    "tallgrass.plain.lyings": {
        "paths_of_lying": "meadow, homes, lying", "lying_of_paths": "meadow, homes, paths",
        "joined_with": "meadow, homes, paths"},
    "tallgrass.plain.counting": {
        "count_leading": "meadow, homes", "count_by_leading": "meadow, homes", "evenings": "meadow, homes, " + TOLD,
        "count_evenings": "meadow, homes, " + TOLD},
    "tallgrass.desk.desk": {
        "Desk": {"__init__": "self, meadow, homes", "limit": "property", "standing": "property", "current": "self",
                 "sound": "self", "tell": "self, note", "together": "self, notes", "strike": "self, number",
                 "undo": "self", "redo": "self", "set_limit": "self, number", "late": "self, sign",
                 "whereabouts": "self, hour", "answer": "self, question", "tried": "self, notes, question",
                 "lot": "self", "strikes": "self", "clash": "self", "homes": "self"}},
    "tallgrass.desk.desktext": {"desk_text": "desk", "read_desk": "meadow, text"},
    "tallgrass.desk.language": {"run_lines": "desk, text"},
}

YIELDING = [("tallgrass.asking.answers", "books_for"), ("tallgrass.least.shortest", "fitting_days"),
            ("tallgrass.plain.leading", "untrodden_sets"), ("tallgrass.plain.strangers", "least_companies"),
            ("tallgrass.plain.counting", "evenings")]


def signature(function):
    return str(inspect.signature(function))[1:-1]


class Interface(unittest.TestCase):
    def defined(self, name):
        """The functions and classes that the file of a module defines itself."""
        module = importlib.import_module(name)
        with open(module.__file__, encoding="utf-8") as file:
            tree = ast.parse(file.read())
        return {node.name: getattr(module, node.name) for node in tree.body
                if isinstance(node, (ast.FunctionDef, ast.ClassDef))}

    def test_errors(self):
        self.assertEqual(sorted(self.defined("tallgrass.base.errors")), sorted(ERRORS))

    def test_functions_and_classes(self):
        for file, names in FILES.items():
            defined = self.defined(file)
            for name, expected in names.items():
                with self.subTest(file=file, name=name):
                    self.assertIn(name, defined)
                    if isinstance(expected, dict):
                        self.check_class(defined[name], expected)
                    else:
                        self.assertEqual(signature(defined[name]), expected)

    def test_functions_that_yield(self):
        for file, name in YIELDING:
            self.assertTrue(inspect.isgeneratorfunction(self.defined(file)[name]))

    def check_class(self, found, methods):
        for name, expected in methods.items():
            self.assertIn(name, vars(found))
            if expected != "property":
                self.assertEqual(signature(getattr(found, name)), expected, name)
            else:
                self.assertIsInstance(vars(found)[name], property)


if __name__ == "__main__":
    unittest.main()
