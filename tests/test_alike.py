"""Section 5: bodies with many statements that are alike, in which wrong ones are found all the same."""

import random
import time
import unittest

from rightstate.errors import BadProgram
from rightstate.kinds import Kind
from rightstate.programs import Program
from samples import make_file, no_names, no_texts, plain_kind, rows
from things import KINDS

NONE, COPY = ("none", "a"), ("copy", "a", "b")


def great(seed, change=None):
    """Kinds, and six functions of 150 to 200 statements, in blocks up to six deep; what is told is put at an end."""
    draw = random.Random(seed)

    def deep(block, many):
        for _ in range(many):
            block = [draw.choice([("maybe", block, []), ("loop", block), ("try", block, []), ("has", "a", block, ())])]
        return block

    def body(many):
        found, left = [], many
        for _ in range(many):
            levels, wide = draw.randrange(7), 1 + draw.randrange(12)
            if left >= levels + wide:
                found, left = found + deep([COPY] * wide, levels), left - levels - wide
        return found + [("none", "c")] * left

    functions = [("main", [], [("new", "a", "k")] + [("copy", "b", "a")] * 199)]
    functions += [(name, ["a", "b", "c"], body(150 + draw.randrange(51))) for name in "fghij"]
    if change is not None:
        functions[5][2].extend(change)
    return [Kind(name, "new", ["new"], {}) for name in "klmn"], functions


class Alike(unittest.TestCase):
    def check(self, place, body):
        functions = [("main", (), body), ("f", ("a",), ())]
        if place is None:
            self.assertEqual(Program(KINDS, functions).functions()[0][2], frozen(body))
            return
        with self.assertRaises(BadProgram) as caught:
            Program(KINDS, functions)
        self.assertEqual(caught.exception.place, (0,) + place)

    def test_wrong_ones_behind_right_ones(self):
        for thing in no_names() + [(), [], ("copy", "a"), ("copy", "a", "b", "c"), ("copy", "a", None), ("Copy", "a", "b")]:
            self.check((0,), [thing, COPY])
            self.check((1,), [COPY, thing, thing])
            self.check((3,), [COPY, COPY, COPY, thing])
            self.check((2, 0, 2), [COPY, COPY, ("loop", [COPY, COPY, thing])])
            self.check((1,), [COPY, ("copy", "a", thing if thing not in ("a", "ab") else None)])

    def test_lists_and_tuples_are_alike(self):
        self.check(None, [COPY, list(COPY), COPY, list(COPY)])
        self.check(None, [["run", None, "f", ["a"]], ("run", None, "f", ("a",)), ("run", None, "f", ["a"])])
        self.check((2,), [["run", None, "f", ["a"]], ("run", None, "f", ("a",)), ("run", None, "f", ["a", "a"])])
        self.check((1,), [("run", None, "f", ("a",)), ("run", None, "f", "a")])
        self.check((1,), [("run", None, "f", ("a",)), ("run", None, "f", "a", "a")])
        self.check((1,), [("run", "a", "f", ("a",)), ("run", "a", "f", (["a"],))])

    def test_leaving_behind_a_loop_in_which_it_is_right(self):
        for word in ("leave", "again"):
            one = (word,)
            self.check(None, [("loop", [one, one, [word]]), NONE, ("loop", [one, ("maybe", [one], [one])])])
            self.check((1,), [("loop", [one, one]), one])
            self.check((1,), [("loop", [one, one]), [word]])
            self.check((1, 1, 0), [("loop", [("maybe", [one], [])]), ("maybe", [], [one])])
            self.check((1,), [("loop", [one, ("loop", [one]), one, ("with", "a", [one]), one]), one])
            self.check((0, 0, 1), [("maybe", [("loop", [one]), one], [])])
            self.check((1, 1, 0), [("loop", [one]), ("try", [NONE], [([], [one])])])

    def test_two_hundred_and_one_alike(self):
        for one in (COPY, NONE, ("wait",), ("return", None), ["none", "a"], ("run", None, "f", ("a",)), ("has", "a", [], ())):
            self.check(None, [one] * 200)
            self.check((200,), [one] * 201)
            self.check((200,), [one] * 1000)
            self.check((1, 0, 198), [one, ("loop", [one] * 300)])
            self.check((1,), [("loop", [one] * 199), one])
            self.check((1, 0, 49), [("maybe", [one] * 99, [one] * 50), ("loop", [one] * 60)])
        self.check((100,), [("loop", [NONE])] * 120)
        self.check((100, 0, 0), [NONE] + [("loop", [NONE])] * 120)
        self.check((50,), [("maybe", [COPY], [COPY, COPY])] * 50 + [("try", [], [([], [NONE])])])
        self.check((52, 1, 0), [NONE, COPY] + [("maybe", [], [COPY, COPY, COPY])] * 49 + [("loop", []), ("try", [], [([], [NONE])])])

    def test_too_deep_though_alike(self):
        block = [NONE]
        for _ in range(6):
            block = [NONE, ("loop", block)]
        self.check(None, block)
        self.check((1, 0, 1, 0, 1, 0, 1, 0, 1, 0, 1, 0, 1, 0, 0), [NONE, ("maybe", block, [])])
        self.check(None, [NONE, ("maybe", block[1][1], [])])

    def test_a_sixth_variable_though_alike(self):
        five = [("copy", x, y) for x, y in zip("abcd", "bcde")]
        self.check(None, five * 20)
        self.check((80,), five * 20 + [("none", "f")])
        self.check((80, 1, 1), five * 20 + [("maybe", [], five[:1] + [("copy", "a", "g")])])
        program = Program([plain_kind("k")], [("main", (), five), ("g", ("z",), five[:3]), ("h", ("e", "d"), five[::-1])])
        self.assertEqual([program.variables(name) for name in ("main", "g", "h")], [list("abcde"), list("zabcd"), list("edcba")])
        with self.assertRaises(BadProgram) as caught:
            Program([plain_kind("k")], [("main", (), five), ("g", ("z",), five)])
        self.assertEqual(caught.exception.place, (1, 3))

    def test_kinds_and_functions_of_each_program(self):
        statement = ("new", "a", "k")
        for _ in range(2):
            Program([plain_kind("k")], [("main", (), [statement] * 3)])
            with self.assertRaises(BadProgram) as caught:
                Program([plain_kind("l")], [("main", (), [NONE, statement])])
            self.assertEqual(caught.exception.place, (0, 1))

    def test_changed_behind(self):
        one, args, block, errors = ["none", "a"], ["a"], [NONE, ["none", "a"]], ["E"]
        body = [one, ("run", None, "f", args), ("loop", block), ("try", block, [[errors, block]]), one]
        kinds, params = [make_file()], ["a"]
        functions = [["main", [], body], ["f", params, []]]
        program = Program(kinds, functions)
        expected = [("main", (), frozen(body)), ("f", ("a",), ())]
        for thing in (one, args, block, errors, body, kinds, params, functions):
            thing.reverse()
            thing.append(None)
        self.assertEqual(program.functions(), expected)
        self.assertEqual(program.points(), Program([make_file()], expected).points())

    def test_things_that_are_equal_to_nothing(self):
        for thing in no_texts() + rows():
            self.check((2,), [COPY, COPY, ("copy", thing, "b")])

    def test_great_programs(self):
        begun = time.perf_counter()
        for seed in range(20):
            program = Program(*great(seed))
            self.assertEqual(program.functions(), [frozen(one) for one in great(seed)[1]])
            for change in ([("none", "c")] * 201, [("copy", "x", "y"), ("copy", "z", "w")], [("maybe", [("copy", "x", "y"), ("none", "z")], [])]):
                kinds, functions = great(seed, change)
                with self.assertRaises(BadProgram) as caught:
                    Program(kinds, functions)
                self.assertEqual(caught.exception.place[0], 5)
        # They take a tenth of a second, but machines may be slow.
        self.assertLess(time.perf_counter() - begun, 20)


def frozen(thing):
    return tuple(map(frozen, thing)) if isinstance(thing, (list, tuple)) else thing


if __name__ == "__main__":
    unittest.main()
