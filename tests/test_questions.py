"""Section 10: what is reached, what variables hold, idle moves, and what functions need."""

import itertools
import random
import unittest

from drawn import draw_all, draw_program
from judge import is_entry, stand_at
from reference import Run, reach
from rightstate.errors import NoFunction, NoKind, NoPlace, NoVariable, TooMany
from rightstate.kinds import Kind
from rightstate.programs import Program
from rightstate.questions import alike_at, idle, needs, reached, states_at
from rightstate.tables import summary, table
from samples import make_program, no_names, no_rows, rows
from things import BOX, LOCK, WAIT, WIDE, WIDE_STATES, call, new, program_of, wide_body, wide_program

SHUT, AJAR = ("box", "shut"), ("box", "ajar")


def held(program, row, variable):
    refs, objects, _ = row[3]
    ref = refs[program.variables(row[0]).index(variable)]
    return objects[ref - 1] if ref else ()


def all_entries(program, function):
    """All entries of a function, by trying all that might be one."""
    many = len(program.functions()[program.number_of(function)][1])
    things = [(kind.name, state) for kind in program.kinds() for state in kind.states()]
    found = []
    for refs in itertools.product(range(many + 1), repeat=many):
        for size in range(many + 1):
            found += [(refs, objects) for objects in itertools.product(things, repeat=size)]
    return sorted(entry for entry in found if is_entry(program, function, entry))


def no_points():
    return no_rows() + rows() + [(0,), (9, 0), (0, 9), [0, 0, 0], (0, True), (False, 0), (0, 0, 0, 0, 0), (0, -1), ("0", "0")]


class Written(unittest.TestCase):
    def test_the_program_of_the_document(self):
        program = make_program()
        points = [(0, 0), (0, 1), (0, 2), (0, 3), (1, 0), (1, 0, 0, 0), (1, 1), (1, 2)]
        self.assertEqual(reached(program), points)
        self.assertEqual(reached(program, guards=[(0, 2)]), points)
        self.assertEqual(states_at(program, (0, 1), "f"), [("file", "new"), ("file", "open")])
        self.assertEqual(states_at(program, [1, 2], "b"), [("file", "new"), ("file", "open")])
        self.assertEqual(alike_at(program, (1, 0), "a", "b"), ["same"])
        self.assertEqual(alike_at(program, (0, 1), "f", "g"), ["unlike"])
        self.assertEqual([entry for entry in needs(program, "main")], [])
        self.assertEqual(needs(program, "main", guards=[(0, 2), (0, 3)]), [((), ())])
        self.assertEqual(needs(program, "twice"), [
            ((1, 0), (("file", "new"),)), ((1, 1), (("file", "new"),)), ((1, 2), (("file", "new"), ("file", "last"))),
            ((1, 2), (("file", "new"), ("file", "new"))), ((1, 2), (("file", "new"), ("file", "open"))),
            ((1, 2), (("file", "new"), ("file", "shut")))])

    def test_places_that_are_not_reached(self):
        program = program_of((new("x"), WAIT, ("copy", "y", "x")), ("f", ("a",), (("none", "b"),)))
        self.assertEqual(reached(program), [(0, 0), (0, 1)])
        for place in ((0, 2), (0, 3)):
            self.assertEqual(states_at(program, place, "x"), [])
            self.assertEqual(alike_at(program, place, "x", "y"), [])
            self.assertEqual(alike_at(program, place, "x", "x"), [])
        self.assertEqual((states_at(program, (1, 0), "a"), alike_at(program, (1, 1), "a", "b")), ([], []))
        self.assertEqual(reached(program_of((("leave",),) and (("loop", (("leave",), ("none", "x"))),))), [(0, 0), (0, 0, 0, 0), (0, 1)])

    def test_one_variable_passed_twice(self):
        program = program_of((new("x"), ("none", "y"), WAIT))
        for place in ((0, 0), (0, 1), (0, 2)):
            for variable in ("x", "y"):
                self.assertEqual(alike_at(program, place, variable, variable), ["same"])

    def test_alike_when_both_hold_none(self):
        program = program_of((("maybe", (new("x"),), ()), ("maybe", (("copy", "y", "x"),), ()), WAIT))
        self.assertEqual(alike_at(program, (0, 0), "x", "y"), ["same"])
        self.assertEqual(alike_at(program, (0, 2), "y", "x"), ["same", "unlike"])
        self.assertEqual(states_at(program, (0, 2), "y"), [(), ("plain", "s")])

    def test_all_that_is_held_each_once(self):
        body = (new("x", "box"), new("y", "lock"), ("loop", (("maybe", (call("x", "kick"),), (("copy", "x", "y"),)),)), WAIT)
        program = program_of(body)
        self.assertEqual(states_at(program, (0, 3), "x"), [SHUT, ("lock", "free")])
        self.assertEqual(states_at(program, (0, 3), "x", guards=program.points()), [SHUT, ("lock", "free")])
        body = (new("x", "box"), ("try", (call("x", "kick"),), (((), ()),)), WAIT)
        self.assertEqual(states_at(program_of(body), (0, 2), "x"), [AJAR, SHUT])

    def test_rows_of_unlike_entries(self):
        others = (("f", ("a", "b"), (WAIT,)),)
        body = (new("x"), new("y", "box"), ("maybe", (("run", None, "f", ("x", "x")),), (("run", None, "f", ("y", "z")),)))
        program = program_of(body, *others)
        self.assertEqual(states_at(program, (1, 0), "a"), [SHUT, ("plain", "s")])
        self.assertEqual(states_at(program, (1, 0), "b"), [(), ("plain", "s")])
        self.assertEqual(alike_at(program, (1, 0), "a", "b"), ["same", "unlike"])

    def test_idle(self):
        stay, peek, fail = ("ajar", "stay"), ("ajar", "peek"), ("ajar", "fail")
        body = (new("x", "box"), call("x", "lift"), ("test", "x", "peek", (call("x", "lower"),), (call("x", "stay"),)))
        self.assertEqual(idle(program_of(body), "box"), [fail, ("shut", "fail"), ("shut", "kick")])
        self.assertEqual(idle(program_of(body[:2] + (WAIT,)), "box"),
                         [fail, ("ajar", "lower"), peek, stay, ("shut", "fail"), ("shut", "kick")])
        self.assertEqual(idle(program_of(()), "plain"), [])
        self.assertEqual(idle(program_of(()), "lock"), sorted(LOCK.moves()))

    def test_idle_with_withs(self):
        program = program_of((new("x", "lock"), ("with", "x", (call("x", "melt"),))))
        used = [("free", "enter"), ("held", "melt"), ("hot", "exit")]
        self.assertEqual(idle(program, "lock"), [move for move in sorted(LOCK.moves()) if move not in used])

    def test_idle_counts_no_call_that_goes_wrong_or_meets_a_guard(self):
        program = program_of((new("x", "box"), call("x", "lower"), call("x", "lift")))
        self.assertEqual(idle(program, "box"), sorted(BOX.moves()))
        self.assertEqual(idle(program, "box", guards=[(0, 1)]), sorted(BOX.moves()))
        program = program_of((new("x", "box"), ("try", (call("x", "lower"),), (((), ()),)), call("x", "lift")))
        self.assertEqual(idle(program, "box", guards=[(0, 1, 0, 0)]), [move for move in sorted(BOX.moves()) if move != ("shut", "lift")])

    def test_needs_of_functions_without_parameters(self):
        others = (("f", (), (call("x", "m"),)), ("g", (), (("run", None, "g", ()),)), ("h", (), (("run", None, "f", ()),)))
        program = program_of((), *others)
        self.assertEqual([needs(program, name) for name in ("main", "f", "g", "h")], [[((), ())], [], [((), ())], []])
        self.assertEqual(needs(program, "h", guards=[(1, 0)]), [((), ())])

    def test_needs_of_one_object_passed_twice(self):
        others = (("f", ("a", "b"), (call("a", "lift"), call("b", "lower"))),)
        program = program_of((), *others, kinds=[BOX])
        self.assertEqual(needs(program, "f"), [((1, 1), (SHUT,)), ((1, 2), (SHUT, AJAR))])


class Asked(unittest.TestCase):
    """What is refused, in which order."""

    def setUp(self):
        self.program = program_of((new("x"), ("copy", "y", "x")), ("f", ("a",), (("none", "b"),)))

    def check(self, error, field, value, ask, *given, **more):
        with self.assertRaises(error) as caught:
            ask(self.program, *given, **more)
        self.assertIs(getattr(caught.exception, field), value)

    def test_places(self):
        for thing in no_points():
            for guards in ((), thing):
                self.check(NoPlace, "place", thing, states_at, thing, "x", guards=guards)
                self.check(NoPlace, "place", thing, alike_at, thing, "x", "nothing", guards=guards)
            self.check(NoPlace, "place", thing, states_at, thing, thing)

    def test_guards(self):
        for thing in no_points():
            guards = [(0, 0), thing, (7, 7)]
            self.check(NoPlace, "place", thing, reached, guards=guards)
            self.check(NoPlace, "place", thing, states_at, (0, 0), "x", guards=guards)
            self.check(NoPlace, "place", thing, alike_at, (0, 0), "x", "y", guards=guards)
            self.check(NoPlace, "place", thing, idle, "box", guards=guards)
            self.check(NoPlace, "place", thing, needs, "f", guards=guards)
        for thing in no_rows():
            self.check(NoPlace, "place", thing, reached, guards=thing)
            self.check(NoPlace, "place", thing, needs, "f", guards=thing)

    def test_variables(self):
        for thing in no_names() + ["z", "a", "b", "main", "f", "plain"]:
            self.check(NoVariable, "thing", thing, states_at, (0, 1), thing, guards=[(7, 7)])
            self.check(NoVariable, "thing", thing, alike_at, (0, 1), thing, "zz", guards=[(7, 7)])
            self.check(NoVariable, "thing", thing, alike_at, (0, 1), "x", thing, guards=[(7, 7)])
        self.check(NoVariable, "thing", "x", states_at, (1, 0), "x")
        self.assertEqual(states_at(self.program, (1, 0), "b"), [])

    def test_kinds(self):
        for thing in no_names() + ["x", "file", "main", "s", BOX]:
            self.check(NoKind, "thing", thing, idle, thing, guards=[(7, 7)])

    def test_functions(self):
        for thing in no_names() + ["x", "plain", "g"]:
            self.check(NoFunction, "thing", thing, needs, thing, guards=[(7, 7)])

    def test_what_is_told_may_be_changed(self):
        program, guards = make_program(), [[0, 2]]
        for ask, given in ((reached, ()), (states_at, ((0, 2), "f")), (alike_at, ((0, 2), "f", "g")), (idle, ("file",)),
                           (needs, ("twice",))):
            first = ask(program, *given, guards=guards)
            kept = list(first)
            first.append(None)
            self.assertEqual(ask(program, *given, guards=guards), kept)
            self.assertIs(type(kept), list)
        self.assertEqual(guards, [[0, 2]])


def kinds_with(many):
    """Kinds of so many states in all, in which all is an end."""
    found = []
    for name in "klmn":
        size = min(60, many)
        many -= size
        if size:
            states = [a + b for a in "abcde" for b in "abcdefghijkl"][:size]
            found.append(Kind(name, states[0], states, {(one, "go"): [("yes", one)] for one in states[1:]}))
    return found


class Bounds(unittest.TestCase):
    def test_six_hundred_entries(self):
        # With n states there are 1 + n entries of one parameter, 1 + 3n + nn of two, 1 + 7n + 6nn + nnn of three.
        functions = [("main", (), ()), ("f", ("a",), ()), ("g", ("a", "b"), ()), ("h", ("a", "b", "c"), ())]
        for many, sizes in ((6, [1, 7, 55, 475]), (7, [1, 8, 71, None]), (23, [1, 24, 599, None]), (24, [1, 25, None, None]),
                            (240, [1, 241, None, None])):
            program = Program(kinds_with(many), functions)
            for (name, _, _), size in zip(functions, sizes):
                if size is not None:
                    self.assertEqual(len(needs(program, name)), size)
                else:
                    with self.assertRaises(TooMany) as caught:
                        needs(program, name)
                    self.assertEqual(caught.exception.many, 600)

    def test_six_hundred_and_one(self):
        # There is no number of states with 600 or 601 entries: 599 are the most, and 649 or 686 are the next.
        for many in range(1, 30):
            sizes = [1 + many, 1 + 3 * many + many ** 2, 1 + 7 * many + 6 * many ** 2 + many ** 3]
            program = Program(kinds_with(many), [("main", (), (("new", "x", "k"),)), ("f", ("a", "b"), (call("b", "go"),))])
            if sizes[1] <= 600:
                self.assertEqual(needs(program, "f"), [entry for entry in all_entries(program, "f")
                                                       if entry[0][1] and entry[1][entry[0][1] - 1][1] != "aa"])
            else:
                self.assertRaises(TooMany, needs, program, "f")

    def test_too_many_entries_come_ahead_of_too_many_rows(self):
        states = kinds_with(24)[0].states()
        around = Kind("k", states[0], states, {(one, "m"): [("yes", states[(at + step) % 24]) for step in (1, 5)]
                                               for at, one in enumerate(states)})
        calls = [("maybe", [call("c", "m")], [("maybe", [call("d", "m")], [call("e", "m")])])]
        wide = [("new", x, "k") for x in "cde"] + [("loop", calls)]
        for params, bound in ((["a", "b"], 600), (["a"], 4000), ([], 4000)):
            program = Program([around], [("main", (), ()), ("f", params, wide)])
            with self.assertRaises(TooMany) as caught:
                needs(program, "f")
            self.assertEqual(caught.exception.many, bound)

    def test_one_summary_with_too_many_rows(self):
        # The entries share the rows of what they run; each has three of its own: ahead of the run, behind it, the END.
        for many in (4000, 4001):
            others = (("f", ("a",), (("run", None, "g", ()),)), ("g", (), wide_body(many - 3)))
            program = program_of((), *others, kinds=[WIDE])
            entries = [((0,), ())] + [((1,), (("wide", state),)) for state in WIDE_STATES]
            if many == 4000:
                self.assertEqual(len(summary(program, "f", entries[7])), 4000)
                self.assertEqual(needs(program, "f"), entries)
            for ask, given in ((needs, ("f",)), (summary, ("f", entries[7]))):
                if many == 4001:
                    with self.assertRaises(TooMany) as caught:
                        ask(program, *given)
                    self.assertEqual(caught.exception.many, 4000)

    def test_summaries_that_have_too_many_rows_together(self):
        # By yes the function runs the one, by no the other; an object in the state both needs the rows of both.
        ways = {("one", "ask"): [("yes", "one")], ("two", "ask"): [("no", "two")], ("both", "ask"): [("yes", "one"), ("no", "two")]}
        inside = ("has", "a", (("test", "a", "ask", (("run", None, "g", ()),), (("run", None, "h", ()),)),), ())
        others = (("f", ("a",), (inside,)), ("g", (), wide_body(3970)), ("h", (), wide_body(3970)))
        for states in (["one", "two"], ["one", "two", "both"]):
            asked = Kind("asked", "one", states, {key: row for key, row in ways.items() if key[0] in states})
            program = program_of((), *others, kinds=[asked, WIDE])
            if "both" in states:
                with self.assertRaises(TooMany) as caught:
                    needs(program, "f")
                self.assertEqual(caught.exception.many, 4000)
                self.assertRaises(TooMany, summary, program, "f", ((1,), (("asked", "both"),)))
            else:
                entries = [((0,), ())] + [((1,), (("asked", state),)) for state in states]
                self.assertEqual(needs(program, "f"), entries)

    def test_four_thousand_rows(self):
        for guards in ([], [(0, 5)]):
            program = wide_program(4000)
            self.assertEqual(len(table(program, guards=guards)), 4000)
            self.assertEqual(reached(program, guards=guards), program.points())
            self.assertEqual(states_at(program, (0, 131), "x", guards=guards), [("wide", state) for state in WIDE_STATES])
            self.assertEqual(alike_at(program, (0, 131), "x", "y", guards=guards), ["unlike"])
            self.assertEqual(len(idle(program, "wide", guards=guards)), 40 - 8)
            self.assertEqual(needs(program, "main", guards=guards), [((), ())])
            program = wide_program(4001)
            for ask, given in ((reached, ()), (states_at, ((0, 0), "x")), (alike_at, ((0, 0), "x", "y")), (idle, ("wide",)),
                               (needs, ("main",)), (table, ())):
                with self.assertRaises(TooMany) as caught:
                    ask(program, *given, guards=guards)
                self.assertEqual(caught.exception.many, 4000)

    def test_too_many_comes_behind_all_else(self):
        program = wide_program(4001)
        for ask, given, error in ((reached, (), NoPlace), (states_at, ((0, 0), "x"), NoPlace), (states_at, ((0, 0), "z"), NoVariable),
                                  (alike_at, ((0, 0), "x", "z"), NoVariable), (idle, ("box",), NoKind), (idle, ("wide",), NoPlace),
                                  (needs, ("f",), NoFunction), (needs, ("main",), NoPlace)):
            self.assertRaises(error, ask, program, *given, guards=[(9, 9)])


class Drawn(unittest.TestCase):
    def test_by_the_rows_of_runs(self):
        whole = 0
        for _, program, guards in draw_all(300, 250, sizes=(4, 8, 12)):
            found, _, complete = reach(program, 6, 3000, guards)
            if not complete:
                continue
            whole += 1
            self.check_rows(program, list(found), guards)
        self.assertGreater(whole, 120)

    def check_rows(self, program, found, guards):
        self.assertEqual(reached(program, guards=guards), sorted({row[2] for row in found}))
        for place in program.points():
            here = [row for row in found if row[2] == place]
            variables = program.variables(program.functions()[place[0]][0])
            for one in variables:
                self.assertEqual(states_at(program, place, one, guards=guards), sorted({held(program, row, one) for row in here}))
                for other in variables:
                    pairs = [[row[3][0][variables.index(x)] for x in (one, other)] for row in here]
                    words = sorted({"same" if a == b else "unlike" for a, b in pairs})
                    self.assertEqual(alike_at(program, place, one, other, guards=guards), words)

    def test_idle(self):
        for _, program, guards in draw_all(301, 200, sizes=(4, 8, 12)):
            used = set()
            for row in table(program, guards=guards).rows():
                run = stand_at(program, row)
                called = run.called()
                if called is not None and called[0] is not None:
                    used.add((run.objects[called[0]], called[1]))
            for kind in program.kinds():
                expected = [(state, method) for state, method in sorted(kind.moves()) if ((kind.name, state), method) not in used]
                self.assertEqual(idle(program, kind.name, guards=guards), expected)

    def test_needs(self):
        asked = safe = 0
        for _, program, guards in draw_all(302, 200, sizes=(4, 8)):
            for name, _, _ in program.functions():
                entries = all_entries(program, name)
                if len(entries) <= 100:
                    expected = [entry for entry in entries if summary(program, name, entry, guards=guards).is_safe()]
                    self.assertEqual(needs(program, name, guards=guards), expected)
                    asked += len(entries)
                    safe += len(expected)
        self.assertGreater(safe, 300)
        self.assertGreater(asked - safe, 300)

    def test_needs_by_runs(self):
        chance = random.Random(303)
        seen = {True: 0, False: 0}
        for _ in range(60):
            program = draw_program(chance, 5, recursive=False)
            for name, params, _ in program.functions():
                entries = all_entries(program, name)
                found = needs(program, name) if len(entries) <= 600 else []
                for entry in chance.sample(entries, min(6, len(entries))) if len(entries) <= 600 else []:
                    wrongs = self.wrongs_from(program, name, entry)
                    if wrongs is not None:
                        seen[not wrongs] += 1
                        self.assertEqual(entry in found, not wrongs)
        self.assertGreater(min(seen.values()), 60)

    def wrongs_from(self, program, name, entry):
        """What goes wrong if somebody who holds the objects runs the function; None if not all was looked at."""
        refs, objects = entry
        run = Run(program)
        run.objects = list(objects)
        run.active[0].values = {number: number for number in range(len(objects))}
        run.activate(program.number_of(name), [None if ref == 0 else ref - 1 for ref in refs])
        _, wrongs, complete = reach(program, 6, 2000, first=run, below=1)
        return wrongs if complete else None


if __name__ == "__main__":
    unittest.main()
