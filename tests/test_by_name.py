"""Sections 2 and 4 to 16: arguments by their names, in any order, as by place."""

import inspect
import itertools
import unittest

from rightstate.book import Book
from rightstate.built import Built, inferred, played, shapes
from rightstate.errors import RightError
from rightstate.guarding import guards_fault, least_guards, why_guarded
from rightstate.kinds import Kind, after, allowed
from rightstate.live import Live, moved, used, within
from rightstate.papers import paper_fault, paper_of
from rightstate.programs import Program
from rightstate.questions import alike_at, idle, needs, reached, states_at
from rightstate.shortest import run_to, steps_to_wrong, wrong_run
from rightstate.standins import common, pairing, pairing_fault, parted, parting_program, stand_ins
from rightstate.tables import summary, table
from rightstate.texts import kind_text, program_text, read_kind, read_program
from rightstate.walks import Walk, runs, walk
from samples import FILE_MOVES, MAIN, TWICE, make_file, make_program
from things import LOCK, main_row

PROGRAM = make_program()
ENTRY = ((1, 1), (("file", "new"),))
GUARDS = [(0, 2), (0, 3)]
CALM = Kind("file", "new", ["new", "shut"], {key: row for key, row in FILE_MOVES.items() if key[0] != "new"}
            | {("new", "open"): [("no", "open")]})
READER = Built("reader", [CALM], ["f"], [("begin", (("new", "f", "file"), ("call", "f", "open"), ("say", "yes"))),
                                         ("end", (("call", "f", "close"), ("none", "f")))])
BOOK = Book()
BOOK["twice"] = PROGRAM
# Each function with its arguments in the order of the document; the names behind the star come last.
ASKED = [
    (Kind, {"name": "file", "start": "new", "ends": ["new"], "moves": FILE_MOVES}, []),
    (make_file().renamed, {"name": "other"}, []),
    (after, {"kind": make_file(), "history": [("open", "no")]}, []),
    (allowed, {"kind": make_file(), "history": [("open", "no")]}, []),
    (Program, {"kinds": [make_file()], "functions": [MAIN, TWICE]}, []),
    (PROGRAM.kind_of, {"name": "file"}, []),
    (PROGRAM.variables, {"function": "twice"}, []),
    (PROGRAM.number_of, {"function": "twice"}, []),
    (PROGRAM.replaced, {"kind": make_file()}, []),
    (walk, {"program": PROGRAM, "choices": [0, 1], "most": 5, "guards": GUARDS}, ["most", "guards"]),
    (runs, {"program": PROGRAM, "many": 2, "most": 9, "guards": GUARDS}, ["most", "guards"]),
    (table, {"program": PROGRAM, "guards": GUARDS}, ["guards"]),
    (summary, {"program": PROGRAM, "function": "twice", "entry": ENTRY, "guards": GUARDS}, ["guards"]),
    (table(PROGRAM).exits, {"function": "twice", "entry": ENTRY}, []),
    (paper_fault, {"program": PROGRAM, "rows": [main_row((0, 0), (0, 0))], "exits": [], "guards": GUARDS}, ["guards"]),
    (paper_of, {"program": PROGRAM, "guards": GUARDS}, ["guards"]),
    (steps_to_wrong, {"program": PROGRAM, "guards": GUARDS[:1]}, ["guards"]),
    (wrong_run, {"program": PROGRAM, "guards": GUARDS[:1]}, ["guards"]),
    (run_to, {"program": PROGRAM, "row": main_row((0, 2), (1, 1), (("file", "open"),)), "guards": GUARDS}, ["guards"]),
    (reached, {"program": PROGRAM, "guards": GUARDS}, ["guards"]),
    (states_at, {"program": PROGRAM, "place": (0, 2), "variable": "f", "guards": GUARDS}, ["guards"]),
    (alike_at, {"program": PROGRAM, "place": (0, 1), "one": "f", "other": "g", "guards": GUARDS}, ["guards"]),
    (idle, {"program": PROGRAM, "kind": "file", "guards": GUARDS}, ["guards"]),
    (needs, {"program": PROGRAM, "function": "twice", "guards": GUARDS}, ["guards"]),
    (least_guards, {"program": PROGRAM}, []),
    (why_guarded, {"program": PROGRAM}, []),
    (guards_fault, {"program": PROGRAM, "places": [(0, 2), (0, 1)]}, []),
    (parted, {"one": CALM, "other": make_file()}, []),
    (pairing, {"one": make_file(), "other": CALM}, []),
    (pairing_fault, {"one": make_file(), "other": CALM, "pairs": [(("new",), ("new",))]}, []),
    (parting_program, {"one": CALM, "other": make_file()}, []),
    (common, {"one": make_file(), "other": CALM, "name": "both"}, []),
    (stand_ins, {"kinds": [make_file(), CALM]}, []),
    (Built, {"name": "reader", "kinds": [CALM], "fields": ["f"], "methods": READER.methods()}, []),
    (inferred, {"built": READER}, []),
    (shapes, {"built": READER}, []),
    (played, {"built": READER, "methods": ["begin", "end", "end"], "choices": [1], "most": 9}, ["most"]),
    (Live, {"kind": make_file(), "picks": [1, 2]}, []),
    (Live(make_file(), [1]), {"method": "open"}, []),
    (moved, {"live": Live(make_file()), "state": "new"}, []),
    (within, {"live": Live(make_file()), "deep": 3}, []),
    (used, {"live": Live(LOCK), "methods": ["enter", "exit"]}, []),
    (kind_text, {"kind": CALM}, []),
    (program_text, {"program": PROGRAM}, []),
    (read_kind, {"text": kind_text(CALM)}, []),
    (read_program, {"text": program_text(PROGRAM)}, []),
    (BOOK.verdict, {"name": "twice"}, []),
    (BOOK.changes, {"kind": CALM}, []),
]


def told(found):
    if isinstance(found, Live):
        return (found.state, found.left, found.told())
    if isinstance(found, Walk):
        return (found.end(), found.used(), found.steps(), found.places(), found.calls(), found.objects(), found.rows())
    return list(found) if inspect.isgenerator(found) else found


class ByName(unittest.TestCase):
    def test_in_any_order(self):
        for ask, given, behind in self.asked():
            places = [given[name] for name in given if name not in behind]
            expected = told(ask(*places, **{name: given[name] for name in behind}))
            for names in itertools.permutations(given):
                self.assertEqual(told(ask(**{name: given[name] for name in names})), expected)

    def asked(self):
        """All that is asked but a call of a live object, which changes it; it has but one argument."""
        live = Live(make_file(), [1])
        self.assertEqual((live(method="open"), live(method="read"), live.state), (False, False, "last"))
        return [(ask, given, behind) for ask, given, behind in ASKED if not isinstance(ask, Live)]

    def test_partly_by_place(self):
        for ask, given, behind in self.asked():
            names = list(given)
            expected = told(ask(**given))
            for many in range(len(names) - len(behind) + 1):
                rest = {name: given[name] for name in names[many:][::-1]}
                self.assertEqual(told(ask(*[given[name] for name in names[:many]], **rest)), expected)

    def test_the_star(self):
        for ask, given, behind in ASKED:
            if behind:
                with self.assertRaises(TypeError):
                    told(ask(*given.values()))
            kinds = [one.kind for one in inspect.signature(ask).parameters.values()]
            self.assertEqual(kinds.count(inspect.Parameter.KEYWORD_ONLY), len(behind))
            self.assertEqual(list(inspect.signature(ask).parameters), list(given))

    def test_defaults(self):
        self.assertEqual(told(walk(PROGRAM, [0, 1])), told(walk(PROGRAM, [0, 1], most=500, guards=())))
        self.assertEqual(told(runs(PROGRAM, 2)), told(runs(PROGRAM, 2, most=500, guards=[])))
        self.assertEqual(table(PROGRAM), table(PROGRAM, guards=()))
        for ask, given, behind in ASKED:
            for name in behind:
                default = inspect.signature(ask).parameters[name].default
                self.assertEqual(default, {"most": 500, "guards": ()}[name])

    def test_methods_without_arguments(self):
        found, one = table(PROGRAM), walk(PROGRAM, [])
        for thing, names in ((READER, ["kinds", "fields", "methods"]), (Live(LOCK), ["told"]), (BOOK, ["names"]), (found, ["rows", "entries", "wrongs", "is_safe"]), (PROGRAM, ["kinds", "functions", "points"]),
                             (one, ["end", "used", "steps", "places", "calls", "objects", "rows"]),
                             (make_file(), ["states", "methods", "moves"])):
            for name in names:
                self.assertEqual(list(inspect.signature(getattr(thing, name)).parameters), [])
                self.assertIn(name, vars(type(thing)))

    def test_errors_too(self):
        for ask, given, behind in ASKED:
            if "guards" in given:
                wrong = dict(given, guards=[(7, 7)])
                for names in itertools.permutations(wrong):
                    with self.assertRaises(RightError) as caught:
                        told(ask(**{name: wrong[name] for name in names}))
                    self.assertEqual(caught.exception.place, (7, 7))

    def test_where_they_are_defined(self):
        for ask, _, _ in self.asked():
            module = ask.__module__ if not inspect.ismethod(ask) else type(ask.__self__).__module__
            self.assertIn(module, ["rightstate." + name for name in ("kinds", "programs", "walks", "tables", "papers", "shortest",
                                                                    "questions", "guarding", "standins", "built", "live",
                                                                    "texts", "book")])
            if inspect.ismethod(ask):
                self.assertIn(ask.__name__, vars(type(ask.__self__)))


if __name__ == "__main__":
    unittest.main()
