"""Section 7: tables, with points 1 to 3 of section 3."""

import itertools
import random
import unittest

from drawn import draw_all, draw_program, widened
from judge import stand_at
from reference import Run, reach
from rightstate.errors import TooMany
from rightstate.kinds import Kind
from rightstate.programs import Program
from rightstate.tables import Table, summary, table
from rightstate.walks import walk
from samples import make_program
from things import BOX, EMPTY, LOCK, PLAIN, WAIT, call, main_row, new, program_of

SHUT, AJAR, THING = ("box", "shut"), ("box", "ajar"), ("plain", "s")
FILE, OPEN = ("file", "new"), ("file", "open")


class Written(unittest.TestCase):
    """Tables that are written out."""

    def check(self, program, rows, exits, wrongs=(), **more):
        found = table(program, **more)
        self.assertIs(type(found), Table)
        self.assertEqual(found.rows(), sorted(rows))
        self.assertEqual(found.entries(), sorted(exits))
        for function, entry in exits:
            self.assertEqual(found.exits(function, entry), sorted(exits[function, entry]))
        self.assertEqual(found.wrongs(), sorted(wrongs))
        self.assertIs(found.is_safe(), len(wrongs) == 0)
        self.assertEqual(len(found), len(rows))
        for row in rows:
            self.assertIs(row in found, True)

    def test_empty_main(self):
        self.check(program_of(()), [main_row((0, 0))], {("main", EMPTY): [("return", (), ("none",))]})

    def test_the_program_of_the_document(self):
        entry = ((1, 1), (FILE,))
        self.check(make_program(), [
            main_row((0, 0), (0, 0)), main_row((0, 1), (1, 0), (FILE,)),
            main_row((0, 1), (1, 0), (FILE,), ("take", 1)), main_row((0, 1), (1, 0), (OPEN,), ("take", 1)),
            main_row((0, 2), (1, 1), (FILE,)), main_row((0, 2), (1, 1), (OPEN,)),
            main_row((0, 3), (1, 0), (FILE,), ("raise", "LOST")),
            ("twice", entry, (1, 0), ((1, 1), (FILE,), ())), ("twice", entry, (1, 0, 0, 0), ((1, 1), (FILE,), ())),
            ("twice", entry, (1, 1), ((1, 1), (FILE,), ())), ("twice", entry, (1, 1), ((1, 1), (OPEN,), ())),
            ("twice", entry, (1, 2), ((1, 1), (FILE,), ("raise", "LOST"))),
            ("twice", entry, (1, 2), ((1, 1), (FILE,), ("return", 1))),
            ("twice", entry, (1, 2), ((1, 1), (OPEN,), ("return", 1))),
        ], {
            ("main", EMPTY): [("LOST", (), ("none",))],
            ("twice", entry): [("LOST", ("new",), ("none",)), ("return", ("new",), ("old", 1)), ("return", ("open",), ("old", 1))],
        }, [((0, 2), ("barred", "file", state, "enter")) for state in ("new", "open")])

    def test_loop(self):
        body = (new("x", "box"), ("loop", (call("x", "lift"), call("x", "lower"))))
        self.check(program_of(body), [
            main_row((0, 0), (0,)), main_row((0, 1), (1,), (SHUT,)), main_row((0, 1, 0, 0), (1,), (SHUT,)),
            main_row((0, 1, 0, 1), (1,), (AJAR,)), main_row((0, 2), (1,), (SHUT,)),
        ], {("main", EMPTY): [("return", (), ("none",))]})

    def test_what_goes_wrong_leads_to_nothing(self):
        self.check(program_of((new("x", "box"), ("maybe", (call("x", "lift"),), ()), call("x", "lower"))), [
            main_row((0, 0), (0,)), main_row((0, 1), (1,), (SHUT,)), main_row((0, 1, 0, 0), (1,), (SHUT,)),
            main_row((0, 2), (1,), (SHUT,)), main_row((0, 2), (1,), (AJAR,)), main_row((0, 3), (1,), (SHUT,)),
        ], {("main", EMPTY): [("return", (), ("none",))]}, [((0, 2), ("barred", "box", "shut", "lower"))])

    def test_what_waits_leads_to_nothing(self):
        self.check(program_of((WAIT, WAIT)), [main_row((0, 0))], {("main", EMPTY): []})
        self.check(program_of((new("x", "box"), call("x", "lift"), call("x", "stay"))), [
            main_row((0, 0), (0,)), main_row((0, 1), (1,), (SHUT,)), main_row((0, 2), (1,), (AJAR,)),
        ], {("main", EMPTY): []})

    def test_some_options_go_wrong(self):
        body = (new("x", "box"), ("try", (call("x", "kick"),), ((("F",), ()),)))
        self.check(program_of(body), [
            main_row((0, 0), (0,)), main_row((0, 1, 0, 0), (1,), (SHUT,)), main_row((0, 2), (1,), (SHUT,)),
            main_row((0, 2), (1,), (AJAR,), ("raise", "E")),
        ], {("main", EMPTY): [("return", (), ("none",))]}, [((0, 2), ("dropped", "box", "ajar"))])

    def test_with(self):
        body = (new("x", "lock"), ("with", "x", (("return", "x"),)))
        held = ("lock", "held")
        self.check(program_of(body), [
            main_row((0, 0), (0,)), main_row((0, 1), (1,), (("lock", "free"),)), main_row((0, 1, 0, 0), (1, 1), (held,)),
            main_row((0, 1, 1), (1, 1), (held,), ("return", 1)), main_row((0, 2), (1,), (("lock", "free"),), ("return", 1)),
        ], {("main", EMPTY): [("return", (), ("none",))]})

    def test_exits(self):
        body = (("maybe", (("return", "a"),), ()), new("a", "box"), ("maybe", (("return", "a"),), ()), ("maybe", (), (("raise", "E"),)))
        program = program_of((new("x"), ("run", None, "f", ("x", "y", "x"))), ("f", ("a", "b", "c"), body))
        entry = ((1, 0, 1), (THING,))
        self.assertEqual(table(program).exits("f", entry), [
            ("E", ("s",), ("none",)), ("return", ("s",), ("new", "box", "shut")), ("return", ("s",), ("none",)),
            ("return", ("s",), ("old", 1))])
        # What main runs may raise, and what it returns is gone.
        self.assertEqual(table(program).exits("main", EMPTY), [("E", (), ("none",)), ("return", (), ("none",))])

    def test_exits_of_main_have_no_value(self):
        for last in (("return", "x"), ("return", None), ("none", "x")):
            self.assertEqual(table(program_of((new("x"), last))).exits("main", EMPTY), [("return", (), ("none",))])

    def test_guards(self):
        body = (call("x", "m"), new("x", "box"), call("x", "lift"))
        self.check(program_of(body), [main_row((0, 0), (0,))], {("main", EMPTY): []}, [((0, 0), ("nothing",))])
        self.check(program_of(body), [main_row((0, 0), (0,)), main_row((0, 3), (0,), (), ("raise", "GUARD"))],
                   {("main", EMPTY): [("GUARD", (), ("none",))]}, guards=[(0, 0)])
        body = (("try", (call("x", "m"),), (((), ()),)), new("x", "box"), call("x", "lift"))
        rows = [main_row((0, 0, 0, 0), (0,)), main_row((0, 1), (0,)), main_row((0, 2), (1,), (SHUT,)), main_row((0, 3), (1,), (AJAR,))]
        self.check(program_of(body), rows, {("main", EMPTY): []}, [((0, 3), ("dropped", "box", "ajar"))], guards=[(0, 0, 0, 0)])
        self.check(program_of(body), rows, {("main", EMPTY): [("return", (), ("none",))]}, guards=[[0, 3], (0, 0, 0, 0)])

    def test_several_entries(self):
        body = (new("x", "box"), ("run", None, "f", ("x",)), call("x", "lift"), ("run", None, "f", ("x",)), call("x", "lower"),
                ("run", None, "f", ("y",)))
        found = table(program_of(body, ("f", ("a",), ())))
        self.assertEqual(found.entries(), [("f", ((0,), ())), ("f", ((1,), (AJAR,))), ("f", ((1,), (SHUT,))), ("main", EMPTY)])
        self.assertEqual(found.exits("f", ((0,), ())), [("return", (), ("none",))])
        self.assertEqual(found.exits("f", ((1,), (AJAR,))), [("return", ("ajar",), ("none",))])

    def test_functions_that_are_not_run_have_no_rows(self):
        program = program_of((), ("f", (), (call("x", "m"),)))
        self.assertEqual(table(program), table(program_of(())))

    def test_exits_lead_on_from_all_that_ran_the_function(self):
        # The second row that runs f with this entry comes when its exits are known already.
        body = (new("x", "box"), ("run", "y", "f", ("x",)), ("run", "y", "f", ("x",)), call("x", "lift"))
        found = table(program_of(body, ("f", ("a",), (("return", "a"),))))
        self.assertIn(main_row((0, 4), (1, 1), (AJAR,)), found)
        self.assertEqual(len([row for row in found.rows() if row[0] == "f"]), 2)


class Recursion(unittest.TestCase):
    def test_objects_without_end(self):
        # Each activation makes an object and hands it on; there are ever more of them.
        inside = (new("b", "box"), ("maybe", (("run", "a", "f", ("b",)),), ()), call("b", "lift"), call("b", "lower"))
        found = table(program_of((new("x", "box"), ("run", None, "f", ("x",))), ("f", ("a",), inside)))
        self.assertTrue(found.is_safe())
        self.assertEqual(found.entries(), [("f", ((1,), (SHUT,))), ("main", EMPTY)])
        self.assertEqual(found.exits("f", ((1,), (SHUT,))), [("return", ("shut",), ("none",))])

    def test_no_way_back(self):
        found = table(program_of((("run", None, "f", ()), call("x", "m")), ("f", (), (("run", None, "f", ()),))))
        self.assertTrue(found.is_safe())
        self.assertEqual((len(found), found.exits("f", EMPTY), found.exits("main", EMPTY)), (2, [], []))

    def test_only_deep_down(self):
        # One must go down a hundred activations to go wrong.
        states = [a + b for a in "abcde" for b in "abcdefghijkl"]
        moves = {(one, "down"): [("yes", other)] for one, other in zip(states, states[1:])}
        moves[states[-1], "last"] = [("no", states[-1])]
        kind = Kind("deep", states[0], states, moves)
        inside = (("maybe", (call("a", "down"), ("run", None, "f", ("a",))), ()),)
        found = table(program_of((new("x", "deep"), ("run", None, "f", ("x",))), ("f", ("a",), inside), kinds=[kind]))
        self.assertEqual(found.wrongs(), [((1, 0, 0, 0), ("barred", "deep", states[-1], "down"))])
        self.assertEqual(len(found.entries()), 61)
        self.assertEqual(len(found.exits("f", ((1,), (("deep", states[0]),)))), 60)

    def test_both_ways(self):
        even = ("even", ("a",), (("maybe", (("return", None),), (("run", "a", "odd", ("a",)), ("return", "a"))),))
        odd = ("odd", ("a",), (("maybe", (("return", "a"),), (("run", "a", "even", ("a",)), ("return", "a"))),))
        found = table(program_of((new("x"), ("run", "y", "even", ("x",)), ("run", "y", "odd", ("y",))), even, odd))
        for name in ("even", "odd"):
            self.assertEqual(found.exits(name, ((1,), (THING,))), [("return", ("s",), ("none",)), ("return", ("s",), ("old", 1))])
            self.assertEqual(found.exits(name, ((0,), ())), [("return", (), ("none",))])

    def test_errors_from_any_depth(self):
        inside = (("maybe", (("run", None, "f", ()),), (("raise", "E"),)),)
        found = table(program_of((("try", (("run", None, "f", ()),), ((("E",), (call("x", "m"),)),)),), ("f", (), inside)))
        self.assertEqual(found.exits("f", EMPTY), [("E", (), ("none",))])
        self.assertEqual(found.wrongs(), [((0, 0, 1, 0), ("nothing",))])


def steps_of(row, program, guards):
    """The runs behind the options of the step of a row, by the words of the document."""
    run = stand_at(program, row, guards)
    found = []
    for option in range(run.options()):
        twin = run.twin()
        twin.step(option)
        found.append(twin)
    return found


class Drawn(unittest.TestCase):
    def test_exactly_what_comes(self):
        wholes = 0
        for chance, program, guards in draw_all(70, 250, recursive=False):
            rows, wrongs, whole = reach(program, 5, 1500, guards)
            found = table(program, guards=guards)
            self.assertLessEqual(set(rows), set(found.rows()))
            self.assertLessEqual(set(wrongs), set(found.wrongs()))
            if whole:
                wholes += 1
                self.assertEqual((found.rows(), found.wrongs()), (sorted(rows), sorted(wrongs)))
                self.assertEqual(found.entries(), sorted({row[:2] for row in rows}))
        self.assertGreater(wholes, 200)

    def test_each_row_of_a_walk_is_a_row_of_the_table(self):
        for chance, program, guards in draw_all(71, 250):
            found = table(program, guards=guards)
            for _ in range(5):
                choices = [chance.randint(0, 3) for _ in range(30)]
                one = walk(program, choices, most=200, guards=guards)
                for row in one.rows():
                    self.assertIn(row, found)
                if one.end()[0] == "wrong":
                    self.assertIn(one.end()[1:], found.wrongs())

    def test_closed(self):
        for chance, program, guards in draw_all(72, 150):
            found = table(program, guards=guards)
            for row in found.rows():
                for twin in steps_of(row, program, guards):
                    if twin.over is not None and twin.over[0] == "wrong":
                        self.assertIn(twin.over[1:], found.wrongs())
                    elif twin.over is None and len(twin.active) > 1:
                        self.assertIn(twin.row(), found)

    def test_summaries(self):
        for chance, program, guards in draw_all(73, 150):
            for function, params, _ in program.functions():
                entry = chance.choice(all_entries(program, len(params)))
                found = summary(program, function, entry, guards=guards)
                rows, wrongs, whole = reach_from(program, function, entry, guards)
                self.assertLessEqual(set(rows), set(found.rows()))
                if whole:
                    self.assertEqual((found.rows(), found.wrongs()), (sorted(rows), sorted(wrongs)))

    def test_entries_of_a_table(self):
        for chance, program, guards in draw_all(74, 150):
            found = table(program, guards=guards)
            for function, entry in found.entries():
                part = summary(program, function, entry, guards=guards)
                self.assertLessEqual(set(part.rows()), set(found.rows()))
                self.assertLessEqual(set(part.wrongs()), set(found.wrongs()))
                for one in part.entries():
                    self.assertEqual(part.exits(*one), found.exits(*one))
            self.assertEqual(summary(program, "main", EMPTY, guards=guards), found)

    def test_more_guards_more_rows(self):
        for chance, program, guards in draw_all(75, 150):
            found = table(program, guards=guards)
            more = table(program, guards=guards + [place for place, _ in found.wrongs()])
            self.assertLessEqual(set(found.rows()), set(more.rows()))
            self.assertTrue(table(program, guards=program.points()).is_safe())


def all_entries(program, many):
    """All entries with so many refs."""
    things = [(kind.name, state) for kind in program.kinds() for state in kind.states()]
    found = []
    for refs in itertools.product(range(many + 1), repeat=many):
        seen = [0]
        for ref in refs:
            if ref not in seen:
                seen.append(ref)
        if seen == list(range(len(seen))):
            found += [(refs, objects) for objects in itertools.product(things, repeat=len(seen) - 1)]
    return found


def reach_from(program, function, entry, guards):
    """What reach tells of a function that somebody runs with this entry."""
    number = program.number_of(function)
    run = Run(program, guards)
    run.active = run.active[:1]
    run.objects = list(entry[1])
    below = run.active[0]
    below.values = {at: at for at in range(len(entry[1]))}
    if function == "main":
        return reach(program, 5, 1500, guards)
    run.activate(number, [None if ref == 0 else ref - 1 for ref in entry[0]])
    return reach(program, 6, 1500, guards, run, 1)


class Summaries(unittest.TestCase):
    def test_without_a_run_of_main(self):
        program = program_of((WAIT,), ("f", ("a", "b"), (call("a", "lift"), call("b", "lower"))))
        entry = ((1, 1), (SHUT,))
        found = summary(program, "f", entry)
        self.assertEqual(found.entries(), [("f", entry)])
        self.assertEqual(found.exits("f", entry), [("return", ("shut",), ("none",))])
        self.assertEqual(found.rows(), [("f", entry, (1, at), ((1, 1), (thing,), ())) for at, thing in enumerate([SHUT, AJAR, SHUT])])

    def test_by_entries(self):
        program = program_of((), ("f", ("a", "b"), (call("a", "lift"), call("b", "lower"))))
        safe = [entry for entry in all_entries(program, 2) if summary(program, "f", entry).is_safe()]
        self.assertEqual(safe, [((1, 1), (SHUT,)), ((1, 2), (SHUT, AJAR))])
        self.assertEqual(summary(program, "f", ((0, 0), ())).wrongs(), [((1, 0), ("nothing",))])
        self.assertEqual(summary(program, "f", ((1, 2), (SHUT, SHUT))).wrongs(), [((1, 1), ("barred", "box", "shut", "lower"))])

    def test_the_objects_of_the_entry_are_not_dropped(self):
        program = program_of((), ("f", ("a",), (("none", "a"),)), ("g", ("a",), (("copy", "b", "a"), new("a", "box"), call("b", "lift"))))
        self.assertTrue(summary(program, "f", ((1,), (AJAR,))).is_safe())
        self.assertEqual(summary(program, "g", ((1,), (SHUT,))).exits("g", ((1,), (SHUT,))), [("return", ("ajar",), ("none",))])

    def test_states_that_are_never_reached(self):
        self.assertEqual(summary(program_of((), ("f", ("a",), (("return", "a"),))), "f", ((1,), (("lock", "burnt"),))).exits(
            "f", ((1,), (("lock", "burnt"),))), [("return", ("burnt",), ("old", 1))])

    def test_what_it_runs_is_in_it(self):
        program = program_of((), ("f", ("a",), (("run", None, "g", ("a", "a")),)), ("g", ("a", "b"), ()))
        self.assertEqual(summary(program, "f", ((0,), ())).entries(), [("f", ((0,), ())), ("g", ((0, 0), ()))])

    def test_guards(self):
        program = program_of((), ("f", ("a",), (call("a", "m"),)))
        entry = ((0,), ())
        self.assertFalse(summary(program, "f", entry).is_safe())
        self.assertEqual(summary(program, "f", entry, guards=[[1, 0]]).exits("f", entry), [("GUARD", (), ("none",))])


class NamesMeanNothing(unittest.TestCase):
    NAMES = ["yes", "no", "main", "enter", "none", "new", "a", "zz"]

    def renamed_all(self, program, chance):
        """The program with other names of kinds, states, methods, functions and variables, and how they are called."""
        maps = {}

        def other(sort, name):
            known = maps.setdefault(sort, {})
            fixed = {"function": ["main"], "method": ["enter", "exit"]}.get(sort, [])
            if name in fixed:
                return name
            if name not in known:
                known[name] = chance.choice([one for one in self.NAMES + ["b" + c for c in "abcdefgh"]
                                             if one not in known.values() and one not in fixed])
            return known[name]
        kinds = []
        for kind in program.kinds():
            state = "state of " + kind.name
            moves = {(other(state, one), other("method", method)): [(word, other(state, behind)) for word, behind in row]
                     for (one, method), row in kind.moves().items()}
            kinds.append(Kind(other("kind", kind.name), other(state, kind.start), [other(state, one) for one in kind.ends], moves))
        sorts = {"new": ("variable", "kind"), "copy": ("variable", "variable"), "none": ("variable",), "call": ("variable", "method"),
                 "test": ("variable", "method"), "same": ("variable", "variable"), "has": ("variable",), "with": ("variable",),
                 "return": ("variable",), "run": ("variable", "function")}

        def statement(one):
            if one[0] == "raise":
                return one
            if one[0] == "try":
                return (one[0], block(one[1]), tuple([(errors, block(inside)) for errors, inside in one[2]]))
            named = sorts.get(one[0], ())
            parts = [None if part is None else other(sort, part) for part, sort in zip(one[1:], named)]
            if one[0] == "run":
                return (one[0],) + tuple(parts) + (tuple([other("variable", arg) for arg in one[3]]),)
            return (one[0],) + tuple(parts) + tuple([block(part) for part in one[len(named) + 1:]])

        def block(rows):
            return tuple([statement(one) for one in rows])
        functions = [(other("function", name), tuple([other("variable", one) for one in params]), block(body))
                     for name, params, body in program.functions()]
        return Program(kinds, functions), other

    def test_renamed(self):
        chance = random.Random(77)
        for _ in range(100):
            program = draw_program(chance, 15)
            again, other = self.renamed_all(program, chance)

            def things(objects):
                return tuple([(other("kind", kind), other("state of " + kind, state)) for kind, state in objects])

            def row_of(row):
                function, (refs, objects), place, (values, held, pending) = row
                return (other("function", function), (refs, things(objects)), place, (values, things(held), pending))
            found, there = table(program), table(again)
            self.assertEqual(there.rows(), sorted([row_of(row) for row in found.rows()]))
            self.assertEqual([place for place, _ in there.wrongs()], [place for place, _ in found.wrongs()])
            self.assertEqual({why[0] for _, why in there.wrongs()}, {why[0] for _, why in found.wrongs()})

    def test_the_order_of_functions_and_kinds(self):
        chance = random.Random(78)
        for _ in range(60):
            program = draw_program(chance, 15)
            kinds, functions = program.kinds()[::-1], program.functions()[::-1]
            there = table(Program(kinds, functions))
            many = len(functions)
            rows = [(row[0], row[1], (many - 1 - row[2][0],) + row[2][1:], row[3]) for row in table(program).rows()]
            self.assertEqual(there.rows(), sorted(rows))


class Added(unittest.TestCase):
    """What is added and never comes changes nothing."""

    def test_functions_and_kinds(self):
        chance = random.Random(79)
        for _ in range(60):
            program = draw_program(chance, 15)
            more = Program(program.kinds() + [PLAIN], program.functions() + [("added", (), (call("x", "m"),))])
            self.assertTrue(table(more) == table(program))

    def test_statements_behind_what_never_goes_on(self):
        for first in (WAIT, ("raise", "E"), ("return", None)):
            body = (new("x", "box"), first)
            more = body + (call("x", "m"), call("y", "m"), new("x", "lock"))
            here, there = table(program_of(body)), table(program_of(more))
            self.assertEqual(len(here), len(there))
            self.assertTrue(there.is_safe())

    def test_moves_that_are_never_called(self):
        wide = Kind("box", "shut", ["shut", "far"], BOX.moves() | {("shut", "fly"): [("yes", "far")]})
        body = (new("x", "box"), call("x", "lift"), ("test", "x", "peek", (), ()), call("x", "lower"))
        self.assertEqual(table(program_of(body)), table(program_of(body, kinds=[PLAIN, wide, LOCK])))

    def test_kinds_that_allow_more(self):
        # With more moves and more ends no row is lost, and what goes wrong with them goes wrong without.
        chance = random.Random(80)
        for _ in range(100):
            program = draw_program(chance, 15)
            found, there = table(program), table(widened(chance, program))
            self.assertLessEqual(set(found.rows()), set(there.rows()))
            if found.is_safe():
                self.assertEqual(there, found)


class Asked(unittest.TestCase):
    def test_equal_tables(self):
        found = table(make_program())
        self.assertTrue(found == table(make_program()))
        self.assertFalse(found != table(make_program()))
        for other in (table(make_program(), guards=[(0, 2)]), table(program_of(())), None, found.rows(), 14, "table", table, Table,
                      make_program(), walk(make_program(), [])):
            self.assertFalse(found == other)
            self.assertTrue(found != other)

    def test_tables_that_differ_in_one_part(self):
        # The same rows, but another wrong; the same rows and wrongs, but another exit.
        barred = Kind("k", "s", [], {})
        waits = Kind("k", "s", [], {("s", "m"): []})
        one, other = [table(program_of((new("x", "k"), call("x", "m")), kinds=[kind])) for kind in (barred, waits)]
        self.assertEqual((one.rows(), one.exits("main", EMPTY)), (other.rows(), other.exits("main", EMPTY)))
        self.assertFalse(one == other)
        guards = [[], [(0, 1)]]
        one, other = [table(program_of((new("x", "k"),), kinds=[barred]), guards=row) for row in guards]
        self.assertEqual(one.rows(), other.rows())
        self.assertFalse(one == other)

    def test_tables_that_differ_in_rows_alone(self):
        one, other = [table(program_of((("none", "x"),) * many)) for many in (1, 2)]
        self.assertEqual((one.wrongs(), one.exits("main", EMPTY)), (other.wrongs(), other.exits("main", EMPTY)))
        self.assertFalse(one == other)

    def test_same_table_of_another_program(self):
        one = table(program_of((("maybe", (), ()),)))
        other = table(program_of((("loop", ()),)))
        self.assertTrue(one == other)

    def test_not_iterated_over(self):
        with self.assertRaises(TypeError):
            iter(table(make_program()))

    def test_what_is_told_may_be_changed(self):
        found = table(make_program())
        entry = ((1, 1), (FILE,))
        ways = [found.rows, found.entries, found.wrongs, lambda: found.exits("twice", entry)]
        ahead = [list(way()) for way in ways]
        for way in ways:
            self.assertIs(type(way()), list)
            way().clear()
            way().append(1)
        self.assertEqual([way() for way in ways], ahead)
        self.assertEqual(len(found), 14)

    def test_arguments_stay(self):
        guards, entry = [[0, 2], (0, 3)], [[1, 1], [["file", "new"]]]
        program = make_program()
        found, part = table(program, guards=guards), summary(program, "twice", entry, guards=guards)
        self.assertEqual((guards, entry), ([[0, 2], (0, 3)], [[1, 1], [["file", "new"]]]))
        guards.clear()
        entry[1][0][1] = "open"
        self.assertTrue(found.is_safe())
        self.assertEqual(part.entries(), [("twice", ((1, 1), (FILE,)))])

    def test_all_in_tuples(self):
        found = table(Program([PLAIN], [["main", [], [["new", "x", "plain"], ["with", "x", []]]]]), guards=[[0, 1]])
        self.assertEqual(repr(found.rows()[1]), "('main', ((), ()), (0, 1), ((1,), (('plain', 's'),), ()))")
        self.assertEqual(repr(found.exits("main", [[], []])), "[('GUARD', (), ('none',))]")
        found = table(Program([PLAIN], [["main", [], [["call", "x", "m"]]]]))
        self.assertEqual(repr(found.wrongs()), "[((0, 0), ('nothing',))]")


class Bounds(unittest.TestCase):
    """Tables with as many rows as there may be."""

    def ring(self, size):
        states = [a + b for a in "abcdef" for b in "abcdefghij"][:size]
        return Kind("ring", states[0], states, {(one, "m"): [("yes", states[(at + 1) % size])] for at, one in enumerate(states)})

    def test_just_as_many_as_there_may_be(self):
        kind = self.ring(60)
        body = (("run", None, "f", ()), new("x", "ring"), ("loop", (call("x", "m"),))) + (("none", "y"),) * 63
        # In main the run, that with the pending take, and the new; then 60 rows at each of 2 + 63 + 1 points.
        many = 3 + 60 * 66
        for size, fits in ((4000 - many - 1, True), (4000 - many, False)):
            program = program_of(body, ("f", (), (("none", "y"),) * size), kinds=[kind])
            if fits:
                self.assertEqual(len(table(program)), 4000)
            else:
                with self.assertRaises(TooMany) as caught:
                    table(program)
                self.assertEqual(caught.exception.many, 4000)
                with self.assertRaises(TooMany):
                    summary(program, "main", EMPTY)
                self.assertEqual(len(summary(program, "f", EMPTY)), size + 1)


if __name__ == "__main__":
    unittest.main()
