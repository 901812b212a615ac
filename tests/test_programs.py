"""Section 5: programs, and what they tell. (Wrong statements: test_statements.)"""

import itertools
import unittest

from rightstate.errors import BadProgram, NoFunction, NoKind
from rightstate.kinds import Kind
from rightstate.programs import Program
from samples import MAIN, TWICE, make_file, make_program, names, nested, no_names, no_rows, plain_kind, rows

# Each form of statement, at several depths.
EVERY = ("every", ("p", "q"), (
    ("new", "p", "file"),
    ("copy", "a", "q"),
    ("none", "p"),
    ("call", "p", "open"),
    ("test", "p", "open", (("wait",),), (("raise", "LOST"), ("return", None))),
    ("same", "p", "q", (), (("return", "a"),)),
    ("has", "p", (("maybe", (), (("wait",), ("wait",))),), ()),
    ("loop", (("leave",), ("again",), ("with", "p", (("leave",),)))),
    ("try", (("call", "p", "read"), ("try", (), ())), (
        (("LOST", "GUARD"), (("wait",),)),
        ((), (("with", "q", (("with", "p", ()),)),)))),
    ("run", None, "twice", ("p", "q")),
    ("run", "b", "every", ("p", "p")),
    ("try", (), ()),
))
EVERY_POINTS = [
    (2, 0), (2, 1), (2, 2), (2, 3),
    (2, 4), (2, 4, 0, 0), (2, 4, 1, 0), (2, 4, 1, 1),
    (2, 5), (2, 5, 1, 0),
    (2, 6), (2, 6, 0, 0), (2, 6, 0, 0, 1, 0), (2, 6, 0, 0, 1, 1),
    (2, 7), (2, 7, 0, 0), (2, 7, 0, 1), (2, 7, 0, 2), (2, 7, 0, 2, 0, 0), (2, 7, 0, 2, 1),
    (2, 8, 0, 0), (2, 8, 1, 0), (2, 8, 2, 0), (2, 8, 2, 0, 0, 0), (2, 8, 2, 0, 0, 0, 1), (2, 8, 2, 0, 1),
    (2, 9), (2, 10), (2, 12),
]


def lists(thing):
    """The same with lists in the place of tuples."""
    return [lists(one) for one in thing] if isinstance(thing, tuple) else thing


def make_every():
    return Program([make_file(), plain_kind("other")], [MAIN, TWICE, EVERY])


def only_main(*body):
    return Program([make_file()], [("main", (), body)])


class Told(unittest.TestCase):
    def test_kinds_and_functions(self):
        program = make_every()
        self.assertEqual(program.kinds(), [make_file(), plain_kind("other")])
        self.assertEqual(program.functions(), [MAIN, TWICE, EVERY])
        self.assertEqual([type(one) for one in (program.kinds(), program.functions())], [list, list])

    def test_lists_and_tuples(self):
        kinds = [make_file(), plain_kind("other")]
        functions = [MAIN, TWICE, EVERY]
        for mixed in (lists(tuple(functions)), [MAIN, lists(TWICE), EVERY], tuple(functions),
                      tuple([list(one) for one in functions])):
            for row in (kinds, tuple(kinds)):
                program = Program(row, mixed)
                self.assertTrue(program == make_every())
                self.assertEqual(repr(program.functions()), repr(functions))

    def test_by_name(self):
        program = Program(functions=[MAIN, TWICE], kinds=[make_file()])
        self.assertEqual(program, make_program())
        self.assertEqual(program.kind_of(name="file"), make_file())
        self.assertEqual(program.variables(function="twice"), ["a", "b"])
        self.assertEqual(program.number_of(function="twice"), 1)
        self.assertEqual(program.replaced(kind=make_file()), program)

    def test_kind_of(self):
        program = make_every()
        self.assertEqual(program.kind_of("file"), make_file())
        self.assertEqual(program.kind_of("other"), plain_kind("other"))
        for thing in no_names() + ["new", "main", "files", "fil", "yes"]:
            with self.assertRaises(NoKind) as caught:
                program.kind_of(thing)
            self.assertIs(type(caught.exception), NoKind)
            self.assertIs(caught.exception.thing, thing)

    def test_number_of(self):
        program = make_every()
        self.assertEqual([program.number_of(name) for name in ("main", "twice", "every")], [0, 1, 2])
        program = Program([make_file()], [TWICE, MAIN])
        self.assertEqual([program.number_of(name) for name in ("main", "twice")], [1, 0])

    def test_no_function(self):
        program = make_every()
        for thing in no_names() + ["file", "mains", "mai", "yes", 0, 1, 2]:
            for ask in (program.number_of, program.variables):
                with self.assertRaises(NoFunction) as caught:
                    ask(thing)
                self.assertIs(type(caught.exception), NoFunction)
                self.assertIs(caught.exception.thing, thing)

    def test_what_is_changed_behind(self):
        kinds, functions = [make_file()], lists((MAIN, TWICE))
        program = Program(kinds, functions)
        self.assertEqual((kinds, functions), ([make_file()], lists((MAIN, TWICE))))
        kinds.append(plain_kind("other"))
        functions[0][2][0][1] = "x"
        functions[0][2].clear()
        functions[1][1].append("c")
        functions.append(("more", (), ()))
        program.kinds().clear()
        program.functions().clear()
        program.variables("main").append("x")
        program.points().clear()
        self.assertEqual(program, make_program())
        self.assertEqual(program.kinds(), [make_file()])
        self.assertEqual(program.functions(), [MAIN, TWICE])
        self.assertEqual(program.variables("main"), ["f", "g"])
        self.assertEqual(len(program.points()), 9)


class Variables(unittest.TestCase):
    def check(self, body, found, params=()):
        kinds = [make_file()]
        helper = ("helper", ("x", "y", "z"), ())
        short = ("short", (), ())
        program = Program(kinds, [helper, short, ("one", params, body), ("main", (), ())])
        self.assertEqual(program.variables("one"), found)
        self.assertIs(type(program.variables("one")), list)
        self.assertEqual(program.variables("main"), [])
        self.assertEqual(program.variables("helper"), ["x", "y", "z"])

    def test_params_first(self):
        self.check((), ["q", "p"], ("q", "p"))
        self.check((("copy", "a", "p"), ("copy", "q", "b")), ["q", "p", "a", "b"], ("q", "p"))

    def test_left_to_right(self):
        self.check((("copy", "b", "a"),), ["b", "a"])
        self.check((("copy", "b", "b"),), ["b"])
        self.check((("same", "d", "c", (), ()),), ["d", "c"])
        self.check((("run", "e", "helper", ("d", "c", "d")),), ["e", "d", "c"])
        self.check((("run", None, "helper", ("d", "c", "a")),), ["d", "c", "a"])
        self.check((("run", "d", "short", ()),), ["d"])

    def test_each_statement(self):
        for statement in (("new", "v", "file"), ("none", "v"), ("call", "v", "m"), ("test", "v", "m", (), ()),
                          ("has", "v", (), ()), ("with", "v", ()), ("return", "v")):
            self.check((statement,), ["v"])
        for statement in (("maybe", (), ()), ("loop", ()), ("try", (), (((), ()),)), ("try", (), ((("E",), ()),)),
                          ("run", None, "short", ()), ("return", None), ("raise", "E"), ("wait",),
                          ("loop", (("leave",), ("again",)))):
            self.check((statement,), [])

    def test_names_of_kinds_methods_and_functions_are_no_variables(self):
        self.check((("new", "a", "file"), ("call", "b", "open"), ("run", "c", "short", ())), ["a", "b", "c"])

    def test_a_statement_ahead_of_its_blocks_and_blocks_in_order(self):
        self.check((("test", "c", "m", (("none", "b"),), (("none", "a"),)), ("none", "d")), ["c", "b", "a", "d"])
        self.check((("same", "e", "d", (("none", "c"),), (("none", "b"),)), ("none", "a")), ["e", "d", "c", "b", "a"])
        self.check((("has", "c", (("none", "b"),), (("none", "a"),)),), ["c", "b", "a"])
        self.check((("maybe", (("none", "b"),), (("none", "a"),)), ("none", "c")), ["b", "a", "c"])
        self.check((("loop", (("none", "z"),)), ("none", "a")), ["z", "a"])
        self.check((("with", "z", (("none", "y"),)), ("none", "a")), ["z", "y", "a"])
        self.check((("try", (("none", "d"),), ((("E",), (("none", "c"),)), ((), (("none", "b"),)))), ("none", "a")),
                   ["d", "c", "b", "a"])

    def test_deep_ahead_of_later(self):
        deep = (("maybe", (("loop", (("none", "e"),)), ("none", "d")), (("none", "c"),)),)
        self.check((("has", "z", deep, (("none", "b"),)),), ["z", "e", "d", "c", "b"])


class Points(unittest.TestCase):
    def test_all(self):
        points = make_every().points()
        self.assertEqual(points, make_program().points() + EVERY_POINTS)
        self.assertEqual(points, sorted(points))
        self.assertIs(type(points), list)
        self.assertEqual({type(point) for point in points}, {tuple})

    def test_empty_body(self):
        self.assertEqual(only_main().points(), [(0, 0)])

    def test_try_is_none_but_its_blocks_are(self):
        program = only_main(("try", (("wait",),), (((), (("wait",), ("wait",))),)), ("wait",))
        self.assertEqual(program.points(), [(0, 0, 0, 0), (0, 0, 1, 0), (0, 0, 1, 1), (0, 1), (0, 2)])

    def test_with_has_an_exit(self):
        program = only_main(("with", "f", (("with", "f", ()), ("wait",))))
        self.assertEqual(program.points(), [(0, 0), (0, 0, 0, 0), (0, 0, 0, 0, 1), (0, 0, 0, 1), (0, 0, 1), (0, 1)])

    def test_sorted_by_numbers(self):
        program = only_main(*[("wait",)] * 12)
        self.assertEqual(program.points(), [(0, k) for k in range(13)])
        many = Program([make_file()], [(name, (), ()) for name in names(3)] + [("main", (), (("wait",),))])
        self.assertEqual(many.points(), [(0, 0), (1, 0), (2, 0), (3, 0), (3, 1)])


class Equal(unittest.TestCase):
    def test_same_parts(self):
        self.assertTrue(make_program() == make_program())
        self.assertFalse(make_program() != make_program())

    def test_other_parts(self):
        file, other = make_file(), plain_kind("other")
        base = Program([file, other], [MAIN, TWICE])
        changed = Kind("file", "new", ["new"], file.moves())
        others = [
            Program([file], [MAIN, TWICE]),
            Program([other, file], [MAIN, TWICE]),
            Program([changed, other], [MAIN, TWICE]),
            Program([file, other, plain_kind("third")], [MAIN, TWICE]),
            Program([file, other], [TWICE, MAIN]),
            Program([file, other], [MAIN, TWICE, ("more", (), ())]),
            Program([file, other], [MAIN, ("twice", ("b", "a"), TWICE[2])]),
            Program([file, other], [MAIN, ("twice", ("a", "b"), TWICE[2][:1])]),
            Program([file, other], [("main", (), ()), TWICE]),
        ]
        for one in others:
            self.assertFalse(base == one)
            self.assertFalse(one == base)
            self.assertTrue(base != one)

    def test_other_things(self):
        program = make_program()
        for thing in no_names() + no_rows() + [([make_file()], [MAIN, TWICE]), [MAIN, TWICE], make_file()]:
            if type(thing) is not Program:
                self.assertFalse(program == thing)
                self.assertFalse(thing == program)
                self.assertTrue(program != thing)


class Replaced(unittest.TestCase):
    def test_replaced(self):
        kinds = [plain_kind("one"), make_file(), plain_kind("last")]
        program = Program(kinds, [MAIN, TWICE])
        changed = Kind("file", "a", [], {("a", "fly"): [("yes", "b")]})
        found = program.replaced(changed)
        self.assertIs(type(found), Program)
        self.assertEqual(found, Program([kinds[0], changed, kinds[2]], [MAIN, TWICE]))
        self.assertEqual(found.kind_of("file"), changed)
        self.assertEqual(program.kinds(), kinds)
        self.assertEqual(found.replaced(make_file()), program)

    def test_no_kind(self):
        program = make_program()
        with self.assertRaises(NoKind) as caught:
            program.replaced(plain_kind("other"))
        self.assertEqual(caught.exception.thing, "other")
        for thing in no_names() + no_rows() + ["file", [make_file()], (make_file(),)]:
            if type(thing) is not Kind:
                with self.assertRaises(NoKind) as caught:
                    program.replaced(thing)
                self.assertIs(caught.exception.thing, thing)


class Bad(unittest.TestCase):
    """What is wrong ahead of all statements."""

    def check(self, place, kinds, functions):
        with self.assertRaises(BadProgram) as caught:
            Program(kinds, functions)
        self.assertIs(type(caught.exception), BadProgram)
        self.assertEqual(caught.exception.place, place)
        self.assertIs(type(caught.exception.place), tuple)

    def bad_kinds(self):
        file = make_file()
        five = [plain_kind(name) for name in names(5)]
        found = no_rows() + [[], (), five, tuple(five), [file, file], (five[0], file, five[0]), [file, make_file()],
                             [file, Kind("file", "a", [], {})], ["file"], [[file]], [("file", "new", [], {})], [Kind]]
        for thing in no_names() + no_rows():
            if type(thing) is not Kind:
                found.extend([[thing], [file, thing], (thing, file)])
        return found

    def bad_functions(self):
        """Rows that are no function, and stand where no name is taken."""
        found = no_rows() + rows()
        found += [("f",), ("f", ()), ("f", (), (), ()), ["f", (), [], []], "fgh", {"f": 1, "g": 2, "h": 3}]
        found += [(name, (), ()) for name in no_names()]
        found += [("f", params, ()) for params in no_rows()]
        found += [("f", (), body) for body in no_rows()]
        for name in no_names():
            found += [("f", [name], ()), ("f", ("a", name), ())]
        found += [("f", ("a", "b", "c", "d"), ()), ("f", ["a", "a"], ()), ("f", ("a", "b", "a"), ())]
        return found

    def test_bounds_that_are_met(self):
        kinds = [plain_kind(name) for name in names(4)]
        functions = [(name, ["a", "b", "c"], []) for name in names(5)] + [["main", [], []]]
        program = Program(kinds, functions)
        self.assertEqual((program.kinds(), len(program.functions())), (kinds, 6))
        self.assertEqual(Program(kinds[:1], functions[5:]).points(), [(0, 0)])

    def test_kinds(self):
        for kinds in self.bad_kinds():
            self.check((), kinds, [MAIN, TWICE])

    def test_functions_are_no_row_of_one_to_six(self):
        seven = [("main", (), ())] + [(name, (), ()) for name in names(6)]
        for functions in no_rows() + [[], (), seven, tuple(seven), [None] * 7, {"main": 1}]:
            self.check((), [make_file()], functions)

    def test_a_function_is_none(self):
        main = ("main", (), ())
        for function in self.bad_functions():
            self.check((0,), [make_file()], [function, main])
            self.check((1,), [make_file()], (main, function, function))

    def test_names_of_functions(self):
        main, other = ("main", (), ()), ("f", ("a",), ())
        self.check((1,), [make_file()], [main, main])
        self.check((2,), [make_file()], [other, main, other])
        self.check((2,), [make_file()], [other, main, ["f", [], []]])
        self.check((1,), [make_file()], [main, ("main", ("a",), ())])

    def test_no_main(self):
        for functions in ([("f", (), ())], [("f", (), ()), ("mains", (), ())], [("main", ("a",), ())],
                          [("f", (), ()), ("main", ("a", "b"), ())]):
            self.check((), [make_file()], functions)

    def test_the_same_name_for_several_sorts(self):
        for name in ("main", "yes", "no", "enter", "exit"):
            kind = Kind(name, name, [name], {(name, name): [("yes", name)]})
            body = (("new", name, name), ("call", name, name), ("with", name, ()), ("run", name, "f", (name,)))
            program = Program([kind], [("f", (name,), body), ("main", (), body)])
            self.assertEqual(program.variables("main"), [name])
        program = Program([plain_kind("f")], [("main", (), ())] + [(n, (), ()) for n in ("yes", "no", "enter", "exit")])
        self.assertEqual(program.number_of("exit"), 4)

    def test_which_fault_goes_ahead(self):
        wrong_body = ("main", (), ("none",))
        steps = [
            ((), lambda kinds, functions: ([], functions)),
            ((), lambda kinds, functions: (kinds, functions + [("g" + "x" * k, (), ()) for k in range(1, 6)])),
            ((1,), lambda kinds, functions: (kinds, [functions[0], ("F", (), ())])),
            ((), lambda kinds, functions: (kinds, [("min", (), functions[0][2])] + functions[1:])),
            ((0, 0), lambda kinds, functions: (kinds, [functions[0][:2] + (("none",),)] + functions[1:])),
            ((1, 1), lambda kinds, functions: (kinds, functions[:1] + [functions[1][:2] + ((("wait",), 1),)])),
        ]
        base = ([make_file()], [("main", (), ()), ("f", (), ())])
        for one, two in itertools.combinations(range(len(steps)), 2):
            place, spoil = steps[one]
            _, spoil_too = steps[two]
            if {one, two} != {2, 5}:
                self.check(place, *spoil(*spoil_too(*base)))
        self.check((0,), [make_file()], [("f", None, ()), wrong_body, ("f", (), ())])
        self.check((2,), [make_file()], [wrong_body, ("f", ("a",), ()), ("f", (), None)])
        self.check((), [make_file()], [("f", (), (None,)), ("main", ("a",), (None,))])
        self.check((0, 0), [make_file()], [("f", (), (None,)), ("main", (), (None,))])

    def test_deep(self):
        for make in (list, tuple):
            thing = nested(make, 100)
            self.check((), thing, [MAIN, TWICE])
            self.check((0,), [make_file()], thing)
            self.check((0,), [make_file()], [thing])
            self.check((1,), [make_file()], [("main", (), ()), ("f", thing, ())])
            self.check((0, 0), [make_file()], [("main", (), thing)])
            self.check((0, 0, 0, 0), [make_file()], [("main", (), (("maybe", thing, thing),))])


if __name__ == "__main__":
    unittest.main()
