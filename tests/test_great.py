"""Sections 5 to 9: programs as great as they may be."""

import random
import unittest

from rightstate.errors import BadProgram
from rightstate.papers import paper_fault, paper_of
from rightstate.programs import Program
from rightstate.shortest import run_to, steps_to_wrong, wrong_run
from rightstate.tables import table
from rightstate.walks import walk
from reference import follow
from samples import nested
from test_statements import random_block, seats
from things import EMPTY, KINDS, WAIT, call, main_row, new, program_of

NONE = ("none", "a")


def deep(inner, many):
    """The statement within so many blocks of all sorts, and its place behind that of the function."""
    wraps = [(0, lambda block: ("has", "a", (), block), 1), (0, lambda block: ("loop", block), 0),
             (0, lambda block: ("try", block, (((), ()),)), 0), (0, lambda block: ("same", "a", "b", block, ()), 0),
             (0, lambda block: ("maybe", (), block), 1), (0, lambda block: ("try", (("raise", "E"),), ((("E",), block),)), 1)]
    place = (0,)
    for at in range(many):
        _, wrap, number = wraps[at % len(wraps)]
        inner = wrap((inner,))
        place = (0, number) + place
    return inner, place


class InOneRow(unittest.TestCase):
    def test_two_hundred_statements(self):
        for many in (150, 199, 200):
            program = program_of([NONE] * many)
            found = walk(program, [])
            self.assertEqual((found.end(), found.places()), (("ended",), [(0, at) for at in range(many + 1)]))
            self.assertEqual(len(table(program)), many + 1)
        for more in ([NONE] * 201, [NONE] * 150 + [("maybe", [NONE] * 25, [NONE] * 25)]):
            with self.assertRaises(BadProgram) as caught:
                program_of(more)
            self.assertEqual(caught.exception.place, (0, 200) if len(more) == 201 else (0, 150, 1, 24))

    def test_calls_in_one_row(self):
        body = [new("a", "box")] + [call("a", "lift"), call("a", "lower")] * 99
        found = walk(program_of(body), [])
        self.assertEqual((found.end(), found.steps(), len(found.calls())), (("ended",), 200, 198))
        self.assertEqual(len(found.rows()), 200)
        self.assertTrue(table(program_of(body)).is_safe())

    def test_many_choices(self):
        body = [("maybe", (NONE,), ())] * 100
        found = walk(program_of(body), [0, 1] * 50)
        self.assertEqual((found.end(), found.used(), found.steps()), (("ended",), 100, 151))

    def test_six_functions(self):
        names = ["f" + letter for letter in "abcde"]
        others = [(name, (), [("run", None, behind, ())] + [NONE] * 199) for name, behind in zip(names, names[1:])]
        others.append((names[-1], (), [NONE] * 200))
        program = program_of([("run", None, "fa", ())] + [NONE] * 199, *others)
        found = walk(program, [], most=2000)
        self.assertEqual((found.end(), found.steps()), (("ended",), 5 * (199 + 2 + 1) + 201))
        self.assertEqual(walk(program, []).end(), ("spent",))
        self.assertEqual(len(table(program)), 5 * 202 + 201)
        rows, exits = paper_of(program)
        self.assertIsNone(paper_fault(program, rows, exits))
        self.assertIsNone(steps_to_wrong(program))


class Deep(unittest.TestCase):
    def test_six_blocks(self):
        for inner in (NONE, WAIT, ("raise", "F"), ("return", "a")):
            statement, place = deep(inner, 6)
            program = program_of([statement, NONE])
            choices = [1, 1]
            found = walk(program, choices)
            self.assertIn((0,) + place, found.places())
            self.assertEqual(found.places(), follow(program, choices)[3])
            self.assertIn((0,) + place, [row[2] for row in table(program).rows()])

    def test_seven_blocks(self):
        statement, place = deep(NONE, 7)
        with self.assertRaises(BadProgram) as caught:
            program_of([statement])
        self.assertEqual(caught.exception.place, (0,) + place)

    def test_places_as_long_as_they_may_be(self):
        # A with within six blocks has the longest place of all: that of its exit.
        statement, place = deep(("with", "a", ()), 6)
        program = program_of([new("a", "lock"), new("b"), ("none", "a"), statement])
        self.assertEqual(max(program.points(), key=len), (0, 3) + place[1:] + (1,))
        guards = program.points()
        for row in table(program, guards=guards).rows():
            steps, choices = run_to(program, row, guards=guards)
            self.assertEqual(walk(program, choices, guards=guards).rows()[steps], row)
        rows, exits = paper_of(program, guards=guards)
        self.assertIsNone(paper_fault(program, rows, exits, guards=guards))


class Wide(unittest.TestCase):
    def test_five_variables_and_two_holds(self):
        body = [new(x, "lock") for x in "abcde"] + [("with", "a", [("with", "e", [("return", "c")])])]
        program = program_of([("run", "x", "f", ["x", "x", "x"])], ("f", ("a", "b", "c"), body))
        entry = ((0, 0, 0), ())
        free, held = ("lock", "free"), ("lock", "held")
        row = ("f", entry, (1, 5, 0, 0, 1), ((1, 2, 3, 4, 5, 1, 5), (held, free, free, free, held), ("return", 3)))
        self.assertIn(row, table(program))
        self.assertIn(row, walk(program, []).rows())
        self.assertEqual(run_to(program, row), (9, ()))
        self.assertIsNone(paper_fault(program, *paper_of(program)))

    def test_a_sixth_variable(self):
        body = [("none", x) for x in "abcde"]
        self.assertEqual(walk(program_of(body), []).end(), ("ended",))
        with self.assertRaises(BadProgram) as caught:
            program_of(body + [("none", "f")])
        self.assertEqual(caught.exception.place, (0, 5))

    def test_eight_objects_in_one_row(self):
        # Three of the entry that nothing names, five others in variables, and one more in the pending.
        body = [new(x) for x in "abcde"] + [("with", "a", ())]
        program = program_of([new("x"), new("y"), new("z"), ("run", None, "f", ("x", "y", "z"))],
                             ("f", ("a", "b", "c"), body))
        entry = ((1, 2, 3), (("plain", "s"),) * 3)
        row = ("f", entry, (1, 5), ((4, 5, 6, 7, 8), (("plain", "s"),) * 8, ()))
        self.assertIn(row, table(program))
        self.assertEqual(wrong_run(program), ())
        self.assertEqual(steps_to_wrong(program), (10, (1, 5), ("barred", "plain", "s", "enter")))


class Drawn(unittest.TestCase):
    def test_great_bodies(self):
        chance = random.Random(95)
        kinds = [KINDS[1].renamed("kind")]
        seen = 0
        while seen < 40:
            body = random_block(chance, [], [200], ["x", "y", "z", "v", "w"])
            if len(seats(body, (0,))) < 60:
                continue
            seen += 1
            others = [("one", ["a"], [["return", "a"]]), ("none", [], [["new", "x", "kind"], ["return", "x"]])]
            program = Program(kinds, [("main", [], body)] + others)
            guards = program.points()
            choices = [chance.randint(0, 3) for _ in range(60)]
            found = walk(program, choices, most=300, guards=guards)
            told = (found.end(), found.used(), found.steps(), found.places(), found.calls(), found.objects(), found.rows())
            self.assertEqual(told, follow(program, choices, 300, guards))


class Nested(unittest.TestCase):
    def test_a_hundred_deep(self):
        program = program_of((NONE,))
        for make in (list, tuple):
            thing = nested(make, 100)
            self.assertFalse(thing in table(program))
            self.assertIsNone(run_to(program, thing))
            self.assertEqual(paper_fault(program, [thing], []), ("rows", 0))
            self.assertEqual(paper_fault(program, [], [thing]), ("exits", 0))
            self.assertEqual(paper_fault(program, [main_row((0, 0), (thing,))], []), ("rows", 0))
            self.assertEqual(paper_fault(program, [], [("main", EMPTY, thing)]), ("exits", 0))


if __name__ == "__main__":
    unittest.main()
