"""Sections 6 to 9: what is refused, in which order, and that strange objects lead to no other error."""

import unittest

from rightstate.errors import BadChoices, BadEntry, NoEntry, NoFunction, NoNumber, NoPlace, RightError, TooMany
from rightstate.kinds import Kind
from rightstate.papers import paper_fault, paper_of
from rightstate.shortest import run_to, steps_to_wrong, wrong_run
from rightstate.tables import Table, summary, table
from rightstate.walks import runs, walk
from samples import make_file, make_program, nested, no_rows, no_texts, rows, texts_that_are_no_names
from things import call, main_row, new, program_of

PROGRAM = make_program()
ENTRY = ((1, 1), (("file", "new"),))
ROW = ("twice", ENTRY, (1, 1), ((1, 1), (("file", "new"),), ()))
EXIT = ("twice", ENTRY, ("return", ("new",), ("old", 1)))
TABLE = table(PROGRAM)


def strange():
    """Things that are no numbers, places, entries, rows or exits, of all sorts."""
    found = [thing for thing in no_texts() if not isinstance(thing, int) or isinstance(thing, bool)]
    return found + rows() + texts_that_are_no_names() + ["main", "twice", TABLE, walk(PROGRAM, []), table, Table, walk]


def doubled(make, deep):
    """Rows within one another, each of which has the next one twice: far too many to go through one by one."""
    thing = make()
    for _ in range(deep):
        thing = make([thing, thing])
    return thing


def numbers():
    return [0, 1, -1, 4, 10 ** 30 - 1]


def wide(many):
    return [[1] * many, tuple([(0, 0)] * many), [[]] * many]


class Refused(unittest.TestCase):
    def refused(self, error, field, value, ask):
        with self.assertRaises(RightError) as caught:
            ask()
        self.assertIs(type(caught.exception), error)
        if field is not None:
            found = getattr(caught.exception, field)
            self.assertIs(type(found), type(value))
            if field == "index":
                self.assertEqual(found, value)
            else:
                self.assertIs(found, value)


class Choices(Refused):
    def check(self, choices, index):
        self.refused(BadChoices, "index", index, lambda: walk(PROGRAM, choices))
        self.refused(BadChoices, "index", index, lambda: walk(guards=None, most=0, choices=choices, program=PROGRAM))

    def test_no_row(self):
        for thing in no_rows() + [0, 1, "1", {0: 1}, {0, 1}, iter([1])]:
            self.check(thing, -1)

    def test_elements(self):
        for thing in strange() + [-1, -10 ** 30, True, False]:
            self.check([thing], 0)
            self.check((0, 1, thing, thing, -1), 2)
            self.check([10 ** 29] * 999 + [thing], 999)

    def test_right(self):
        for choices in ([], (), [0], (10 ** 30 - 1,), [0] * 1000):
            walk(PROGRAM, choices)


class Numbers(Refused):
    def test_most(self):
        for thing in strange() + [0, -1, 2001, 10 ** 30 - 1, -10 ** 29, True, False]:
            self.refused(NoNumber, "value", thing, lambda: walk(PROGRAM, [], most=thing))
            self.refused(NoNumber, "value", thing, lambda: walk(PROGRAM, [], most=thing, guards=3))
            self.refused(NoNumber, "value", thing, lambda: list(runs(PROGRAM, 1, most=thing, guards=3)))
        for most in (1, 2, 1999, 2000):
            walk(PROGRAM, [], most=most)
            list(runs(PROGRAM, 1, most=most))

    def test_many(self):
        for thing in strange() + [-1, 13, 10 ** 30 - 1, -10 ** 29, True, False]:
            self.refused(NoNumber, "value", thing, lambda: list(runs(PROGRAM, thing)))
            self.refused(NoNumber, "value", thing, lambda: list(runs(PROGRAM, thing, most=0, guards=3)))
        for many in (0, 12):
            self.assertGreater(len(list(runs(PROGRAM, many))), 0)

    def test_runs_refuse_when_they_are_iterated_over(self):
        found = [runs(PROGRAM, -1), runs(PROGRAM, 1, most=0), runs(PROGRAM, 1, guards=[(5,)])]
        for one, error in zip(found, (NoNumber, NoNumber, NoPlace)):
            with self.assertRaises(error):
                next(one)


def asks(program):
    """All that takes guards, for this program."""
    return [
        lambda guards: walk(program, [], guards=guards),
        lambda guards: list(runs(program, 1, guards=guards)),
        lambda guards: table(program, guards=guards),
        lambda guards: summary(program, "main", ((), ()), guards=guards),
        lambda guards: paper_fault(program, None, None, guards=guards),
        lambda guards: paper_of(program, guards=guards),
        lambda guards: steps_to_wrong(program, guards=guards),
        lambda guards: wrong_run(program, guards=guards),
        lambda guards: run_to(program, None, guards=guards),
        lambda guards: run_to(program, main_row((0, 0)), guards=guards),
    ]


class Guards(Refused):
    def check(self, guards, place, program=PROGRAM):
        for ask in asks(program):
            self.refused(NoPlace, "place", place, lambda: ask(guards))

    def test_no_row(self):
        for thing in no_rows() + [0, "a", {(0, 0): 1}, {(0, 0)}, iter([(0, 0)])]:
            self.check(thing, thing)

    def test_elements(self):
        for thing in strange() + wide(10000) + [0, -1, 10 ** 30 - 1]:
            self.check([thing], thing)
        for thing in strange()[::7]:
            self.check(((0, 0), [0, 1], thing, thing, 7), thing)

    def test_places_that_are_no_points(self):
        # (0, 2, 0, 0) would be the first statement of an empty block.
        for place in ((), (0,), (0, 4), (2, 0), (0, -1), (-1, 0), (0, 2, 0), (0, 2, 0, 0), (0, 2, 1, 0), (0, 2, 2), (1, 0, 1, 0),
                      (1, 0, 0), (1, 3), (True, 0), (0, False), [0, True], (1, 0, False, 0), (10 ** 29, 0), ("0", 0), (0, None),
                      ((0,), 0), [[0, 0]], (0, (0,))):
            self.check([place], place)

    def test_a_try_is_no_point(self):
        program = program_of((("try", (("none", "x"),), ()),))
        for place in ((0, 0), [0, 0]):
            self.check([(0, 1), place], place, program)
        walk(program, [], guards=[(0, 0, 0, 0), (0, 1)])

    def test_all_points_are_right(self):
        for guards in (PROGRAM.points(), tuple([list(place) for place in PROGRAM.points()]), PROGRAM.points() * 2):
            self.assertTrue(table(PROGRAM, guards=guards).is_safe())
        for guards in ((), []):
            self.assertEqual(table(PROGRAM, guards=guards), TABLE)


class Entries(Refused):
    def test_functions(self):
        for thing in strange() + ["mains", "file", "f"]:
            if thing not in ("main", "twice"):
                self.refused(NoFunction, "thing", thing, lambda: summary(PROGRAM, thing, None, guards=3))

    def test_entries(self):
        for thing in strange() + wide(1000) + bad_entries():
            self.refused(BadEntry, None, None, lambda: summary(PROGRAM, "twice", thing, guards=3))
        for thing in strange() + [((0,), ()), ((), (("file", "new"),)), ENTRY, (), ((),), ((), (), ())]:
            self.refused(BadEntry, None, None, lambda: summary(PROGRAM, "main", thing, guards=3))

    def test_lists_for_tuples(self):
        for entry in ([[1, 1], [["file", "new"]]], [(1, 1), (["file", "new"],)], ([1, 1], [("file", "new")])):
            self.assertEqual(summary(PROGRAM, "twice", entry), summary(PROGRAM, "twice", ENTRY))
            self.assertEqual(TABLE.exits("twice", entry), TABLE.exits("twice", ENTRY))
        for entry in ([[], []], [(), ()], ([], ())):
            self.assertEqual(summary(PROGRAM, "main", entry), TABLE)
            self.assertEqual(TABLE.exits("main", entry), TABLE.exits("main", ((), ())))

    def test_no_entry_of_a_table(self):
        for thing in strange() + wide(1000) + bad_entries() + [((1, 2), (("file", "new"), ("file", "new")))]:
            self.refused(NoEntry, None, None, lambda: TABLE.exits("twice", thing))
        for thing in strange() + ["file"]:
            if thing not in ("main", "twice"):
                self.refused(NoEntry, None, None, lambda: TABLE.exits(thing, ENTRY))
                self.refused(NoEntry, None, None, lambda: TABLE.exits(thing, ((), ())))
        self.refused(NoEntry, None, None, lambda: TABLE.exits("main", ENTRY))
        self.refused(NoEntry, None, None, lambda: TABLE.exits("twice", ((), ())))


def bad_entries():
    thing = ("file", "new")
    return [
        ((1, 1), ()), ((1, 1), (thing, thing)), ((1, 2), (thing,)), ((1,), (thing,)), ((1, 1, 1), (thing,)),
        ((2, 1), (thing, thing)), ((0, 2), (thing, thing)), ((2, 2), (thing,)), ((1, 3), (thing, thing)), ((0, 0), (thing,)),
        ((-1, 1), (thing,)), ((True, 1), (thing,)), ((1, True), (thing,)), ((False, 1), (thing,)), ((1, "1"), (thing,)),
        ((1, None), (thing,)), ((0, 0), None), (None, ()), ((1, 1), thing), ((1, 1), ("fn",)), ((1, 1), (("file",),)),
        ((1, 1), (("file", "new", "new"),)), ((1, 1), (("file", "old"),)), ((1, 1), (("new", "file"),)),
        ((1, 1), (("other", "new"),)), ((1, 1), (("file", None),)), ((1, 1), ((["file"], "new"),)), ((1, 1), (("file", ["new"]),)),
        ((1, 1), ({"file": "new"},)), ((1, 1), {thing: 1}), ((1, 1), (thing,), ()), [(1, 1)], "ab", ((10 ** 29, 1), (thing,)),
        ((1, 1), (nested(list, 100),)), (nested(tuple, 100), (thing,)), ((1, 1), ((make_file(), "new"),)),
        ((1, 1), ((b"file", "new"),)),
    ]


def bad_rows():
    """What differs from a row of the program in one part."""
    thing = ("file", "new")
    function, entry, place, config = ROW
    found = [ROW[:3], ROW + ((),), (ROW,), ("main",) + ROW[1:], ("f",) + ROW[1:], (None,) + ROW[1:], (0,) + ROW[1:],
             (["twice"],) + ROW[1:]]
    found += [(function, bad, place, config) for bad in bad_entries()]
    found += [(function, entry, bad, config) for bad in
              ((1, 3), (0, 1), (1,), (), [1], (True, 1), (1, True), (1, 0, 0), (1, 0, 1, 0), None, "11", {1: 1}, ((1, 1),))]
    for bad in ((), (1,), (1, 1, 1), (1, 2), (1, -1), (2, 1), (True, 1), (1, None), None, "ab", [[1], 1]):
        found.append((function, entry, place, (bad, (thing,), ())))
    for bad in ((), (thing, thing), thing, (("file", "old"),), (("other", "new"),), None, ["file"], (thing, None)):
        found.append((function, entry, place, ((1, 1), bad, ())))
    for bad in (("take", 1), ("leave",), ("again",), ("return", 1), ("raise", "E"), None, 0, "", ("",), ["raise"], [()], ((),),
                ("stay",), ("keep", 1), ("keep", "E"), (1,), (1, 1)):
        found.append((function, entry, place, ((1, 1), (thing,), bad)))
    return found + [(function, entry, place, bad) for bad in strange()[::3]]


class Rows(Refused):
    def test_in(self):
        for thing in strange() + wide(1000) + bad_rows() + numbers():
            self.assertIs(thing in TABLE, False)
        self.assertIs(ROW in TABLE, True)
        self.assertIs(list(ROW) in TABLE, False)
        for at in range(1, 4):
            self.assertIs(ROW[:at] + (list(ROW[at]),) + ROW[at + 1:] in TABLE, False)
        self.assertIs(ROW[:3] + (((1, 1), [("file", "new")], ()),) in TABLE, False)
        self.assertIs(ROW[:3] + (((1, 1), (["file", "new"],), ()),) in TABLE, False)
        self.assertIs(ROW[:3] + (((1, 1), (("file", "new"),), []),) in TABLE, False)
        self.assertIs(ROW[:3] + (((1, True), (("file", "new"),), ()),) in TABLE, False)
        self.assertIs(ROW[:2] + ((True, 1), ROW[3]) in TABLE, False)

    def test_run_to(self):
        for thing in strange() + wide(1000) + bad_rows() + numbers():
            self.assertIsNone(run_to(PROGRAM, thing))
        told = run_to(PROGRAM, ROW)
        self.assertIsNotNone(told)
        self.assertEqual(run_to(PROGRAM, ["twice", [[1, 1], [["file", "new"]]], [1, 1], [[1, 1], [["file", "new"]], []]]), told)

    def test_paper_rows(self):
        for thing in no_rows() + [None, "ab", {1: 2}]:
            self.assertEqual(paper_fault(PROGRAM, thing, None), ("rows", -1))
            self.assertEqual(paper_fault(PROGRAM, [ROW], thing), ("exits", -1))
        for thing in strange() + wide(1000) + bad_rows() + numbers():
            self.assertEqual(paper_fault(PROGRAM, [thing], None), ("rows", 0))
            self.assertEqual(paper_fault(PROGRAM, (list(ROW), ROW, thing, None), ()), ("rows", 2))

    def test_paper_exits(self):
        function, entry, way = EXIT
        bad = strange() + wide(1000) + numbers() + [EXIT[:2], EXIT + ((),), ("main", entry, way), ("f", entry, way), (0, entry, way),
                                        (function, entry, way[:2]), (function, entry, way + ((),)),
                                        ("main", ((), ()), ("return", (), ("new", "file", "new"))),
                                        ("main", ((), ()), ("return", (), ("old", 1)))]
        bad += [(function, one, way) for one in bad_entries()]
        bad += [(function, entry, (how,) + way[1:]) for how in ("E", "yes", "no", "raise", "", None, ["return"], 0, "ends", make_file())]
        bad += [(function, entry, ("return", states, ("none",))) for states in
                ((), ("old",), ("new", "new"), "new", None, (None,), (["new"],), (("file", "new"),), {"new": 1})]
        bad += [(function, entry, ("return", ("new",), value)) for value in
                (("old", 0), ("old", "a"), ("old", (1,)), ("take", "file", "new"), ("file", "new", "new"), ("old", 2), ("old", -1), ("old", True), ("old",), ("old", 1, 1), ("none", 1), ("none", ()), (), None, 1,
                 ("new",), ("new", "file"), ("new", "file", "old"), ("new", "other", "new"), ("new", "new", "file"), "none",
                 ("new", ("file", "new")), ("new", "file", "new", 1), ("take", 1), ("new", "file", ["new"]), (["none"],))]
        bad += [(function, entry, ("LOST", ("new",), value)) for value in (("old", 1), ("new", "file", "new"), ())]
        for thing in bad:
            self.assertEqual(paper_fault(PROGRAM, [ROW], [thing]), ("exits", 0), thing)
            self.assertEqual(paper_fault(PROGRAM, [ROW], (EXIT, EXIT, thing)), ("exits", 2))
        for way in (("LOST", ("shut",), ("none",)), ["GUARD", ["new"], ["none"]], ("return", ("last",), ("none",)),
                    ("return", ("new",), ("new", "file", "open")), ["return", ["new"], ["old", 1]]):
            self.assertEqual(paper_fault(PROGRAM, [ROW], [(function, entry, way)]), ("begin",))

    def test_right_rows(self):
        # Rows that never come, but have the form of rows.
        thing, other = ("file", "new"), ("file", "shut")
        for place, config in (
                ((1, 0), ((0, 0), (other,), ())), ((1, 0), ((2, 1), (other, other), ())), ((1, 1), ((2, 3), (thing,) * 3, ())),
                ((1, 2), ((0, 0), (thing,), ("return", 0))), ((1, 2), ((0, 0), (thing, other), ("return", 2))),
                ((1, 2), ((0, 0), (thing,), ("raise", "ANY"))), ((1, 2), ((2, 0), (thing, other, other), ("return", 3)))):
            self.assertEqual(paper_fault(PROGRAM, [("twice", ENTRY, place, config)], []), ("begin",))
        for place, config in (
                ((0, 1), ((0, 0), (thing,), ("take", 1))), ((0, 1), ((0, 0), (), ("take", 0))),
                ((0, 2, 1), ((0, 0, 1), (thing,), ())), ((0, 2, 1), ((1, 0, 2), (thing, other), ("return", 2))),
                ((0, 2, 1), ((0, 0, 1), (thing,), ("raise", "E"))), ((0, 3), ((0, 0), (), ("return", 0)))):
            self.assertEqual(paper_fault(PROGRAM, [("main", ((), ()), place, config)], []), ("begin",))

    def test_wrong_rows_of_main(self):
        thing = ("file", "new")
        for place, config in (
                ((0, 0), ((0, 0), (thing,), ())), ((0, 0), ((0, 2), (thing, thing), ())), ((0, 0), ((2, 1), (thing, thing), ())),
                ((0, 0), ((0, 0), (), ("take", 0))), ((0, 1), ((0, 0), (), ("return", 0))), ((0, 1), ((0, 0), (), ("take", 1))),
                ((0, 1), ((0, 0), (), ("take",))), ((0, 1), ((0, 0), (), ("take", False))), ((0, 1), ((0, 0), (), ("take", "a"))),
                ((0, 1), ((0, 0), (thing, thing), ("take", 1))), ((0, 2), ((0, 0), (), ("take", 0))),
                ((0, 2), ((0, 0, 1), (thing,), ())), ((0, 2, 1), ((0, 1), (thing,), ())), ((0, 2, 1), ((0, 1, 0), (thing,), ())),
                ((0, 2, 1), ((0, 0, 1), (thing,), ("leave",))), ((0, 2, 1), ((0, 0, 1), (thing,), ("again",))),
                ((0, 2, 1), ((0, 0, 1), (thing,), ("take", 1))), ((0, 2, 1), ((0, 0, 1), (thing,), ("raise", "e"))),
                ((0, 2, 1), ((0, 0, 1), (thing,), ("raise",))), ((0, 2, 1), ((0, 0, 1), (thing,), ("return", 2))),
                ((0, 2, 1), ((0, 0, 1), (thing,), ("return", None))), ((0, 3), ((0, 0), (), ("leave",))),
                ((0, 3), ((0, 0), (), ("take", 0))), ((0, 3), ((0, 0), (), ("return", 1))), ((0, 3), ((0, 0, 0), (), ())),
                ((0, 3), ((0, 0), (), ("return", "E"))), ((0, 3), ((0, 0), (), ("raise", 0))), ((0, 3), ((0, 0), (), ("keep", 0))),
                ((0, 3), ((0, 0), (), ("keep", "E"))), ((0, 3), ((0, 0), (), ("return", ()))), ((0, 3), ((0, 0), (), ("return",))),
                ((0, 1), ((0, 0), (), ("take", "a"))), ((0, 1), ((0, 0), (), ("take", -1))), ((0, 1), ((0, 0), (), ("take", ())))):
            self.assertEqual(paper_fault(PROGRAM, [("main", ((), ()), place, config)], []), ("rows", 0), (place, config))


    def test_pendings_at_the_exit_of_a_with_in_a_loop(self):
        program = program_of((("loop", (("try", (("with", "x", ()),), ()),)), ("with", "x", (("loop", ()),))))
        thing = ("box", "shut")
        for pending, right in (((), True), (("leave",), True), (["again"], True), (("return", 0), True), (("return", 1), True),
                               (("raise", "E"), True), (("stay",), False), (("raise",), False), (("return",), False),
                               (("leave", 0), False), (("again", "E"), False), (("take", 0), False), (("leaves",), False),
                               (("return", 2), False), (("raise", "e"), False), (1, False), ("leave", False), ((0,), False)):
            row = main_row((0, 0, 0, 0, 0, 0, 1), (0, 1), (thing,), pending)
            self.assertEqual(paper_fault(program, [row], []), ("begin",) if right else ("rows", 0), pending)
            row = main_row((0, 1, 1), (0, 1), (thing,), pending)
            right = right and tuple(pending) not in (("leave",), ("again",))
            self.assertEqual(paper_fault(program, [row], []), ("begin",) if right else ("rows", 0), pending)


class Doubled(Refused):
    def test_rows_in_rows(self):
        for make in (list, tuple):
            thing = doubled(make, 100)
            self.assertFalse(thing in TABLE)
            self.assertIsNone(run_to(PROGRAM, thing))
            self.assertIsNone(run_to(PROGRAM, main_row((0, 0), thing)))
            self.assertEqual(paper_fault(PROGRAM, [thing], []), ("rows", 0))
            self.assertEqual(paper_fault(PROGRAM, [main_row((0, 0), (0, 0), thing)], []), ("rows", 0))
            self.assertEqual(paper_fault(PROGRAM, [], [thing]), ("exits", 0))
            self.refused(NoPlace, "place", thing, lambda: table(PROGRAM, guards=[thing]))
            self.refused(BadChoices, "index", 0, lambda: walk(PROGRAM, thing))
            self.refused(NoNumber, "value", thing, lambda: walk(PROGRAM, [], most=thing))
            self.refused(NoFunction, "thing", thing, lambda: summary(PROGRAM, thing, ()))
            self.refused(BadEntry, None, None, lambda: summary(PROGRAM, "twice", thing))
            self.refused(BadEntry, None, None, lambda: summary(PROGRAM, "twice", ((1, 1), thing)))
            self.refused(NoEntry, None, None, lambda: TABLE.exits("twice", thing))
            self.refused(NoEntry, None, None, lambda: TABLE.exits(thing, ENTRY))


class Order(Refused):
    def test_guards_ahead_of_too_many(self):
        states = ["a" + letter for letter in "abcdefghijklmnopqrst"]
        kind = Kind("k", states[0], states, {(one, "m"): [("yes", other) for other in states[at:at + 8] + states[:1]][:8]
                                             for at, one in enumerate(states)})
        body = [new(x, "k") for x in "xyz"] + [("loop", [call(x, "m") for x in "xyz"])]
        program = program_of(body, kinds=[kind])
        for ask in asks(program)[2:4] + asks(program)[5:]:
            self.refused(NoPlace, None, None, lambda: ask([(9, 9)]))
            with self.assertRaises(TooMany) as caught:
                ask([])
            self.assertEqual(caught.exception.many, 4000)
        # What needs no table does not mind.
        asks(program)[0]([])
        asks(program)[1]([])
        asks(program)[4]([])

    def test_choices_numbers_guards(self):
        self.refused(BadChoices, "index", 1, lambda: walk(PROGRAM, [0, -1], most=0, guards=1))
        self.refused(NoNumber, None, None, lambda: walk(PROGRAM, [0, 1], most=0, guards=1))
        self.refused(NoPlace, None, None, lambda: walk(PROGRAM, [0, 1], most=1, guards=1))


if __name__ == "__main__":
    unittest.main()
