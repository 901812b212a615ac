"""Section 9: shortest runs that go wrong, and shortest ways to rows."""

import random
import unittest

from drawn import draw_all, draw_program, widened
from reference import reach
from rightstate.errors import TooLong
from rightstate.kinds import Kind
from rightstate.shortest import run_to, steps_to_wrong, wrong_run
from rightstate.tables import table
from rightstate.walks import runs, walk
from samples import make_program
from things import WAIT, call, main_row, new, program_of


class Wrong(unittest.TestCase):
    def check(self, program, steps, place, why, choices=None, **more):
        self.assertEqual(steps_to_wrong(program, **more), (steps, place, why))
        found = wrong_run(program, **more)
        self.assertIs(type(found), tuple)
        if choices is not None:
            self.assertEqual(found, choices)
        one = walk(program, found, most=max(steps, 1), **more)
        self.assertEqual((one.end(), one.steps(), one.used()), (("wrong", place, why), steps, len(found)))

    def check_none(self, program, **more):
        self.assertIsNone(steps_to_wrong(program, **more))
        self.assertIsNone(wrong_run(program, **more))

    def test_none_goes_wrong(self):
        self.check_none(program_of(()))
        self.check_none(program_of((("loop", (new("x", "box"),)),)))
        self.check_none(program_of((("run", None, "f", ()), call("x", "m")), ("f", (), (("run", None, "f", ()),))))
        self.check_none(program_of((), ("f", (), (call("x", "m"),))))
        self.check_none(make_program(), guards=[(0, 2), (0, 3)])

    def test_the_program_of_the_document(self):
        self.check(make_program(), 7, (0, 2), ("barred", "file", "new", "enter"), (1,))
        self.check(make_program(), 9, (0, 3), ("dropped", "file", "open"), (0, 1), guards=[(0, 2)])

    def test_at_once(self):
        self.check(program_of((call("x", "m"),)), 1, (0, 0), ("nothing",), ())

    def test_the_first_of_those_with_as_few_steps(self):
        body = (("maybe", (call("x", "m"),), (call("x", "m"),)),)
        self.check(program_of(body), 2, (0, 0, 0, 0), ("nothing",), (0,))
        body = (new("x", "box"), ("maybe", (call("x", "lower"),), (call("y", "m"),)))
        self.check(program_of(body), 3, (0, 1, 0, 0), ("barred", "box", "shut", "lower"), (0,))
        body = (("maybe", (("none", "x"),), ()), call("x", "m"), WAIT)
        self.check(program_of(body), 2, (0, 1), ("nothing",), (1,))

    def test_the_first_why_of_one_place(self):
        kind = Kind("k", "s", [], {("s", "m"): [("yes", "u"), ("no", "t"), ("yes", "t")]})
        self.check(program_of((new("x", "k"), call("x", "m")), kinds=[kind]), 3, (0, 2), ("dropped", "k", "t"))
        body = (new("x", "box"), ("maybe", (new("x", "lock"),), (("none", "y"),)), call("x", "m"))
        self.check(program_of(body), 4, (0, 2), ("barred", "box", "shut", "m"), (1,))

    def test_the_option_that_goes_wrong(self):
        kind = Kind("k", "s", ["s"], {("s", "enter"): [("yes", "t")], ("t", "exit"): [("no", "s"), ("yes", "u")]})
        program = program_of((new("x", "k"), ("with", "x", (("none", "x"),)), WAIT), kinds=[kind])
        self.check(program, 4, (0, 1, 1), ("dropped", "k", "u"), (1,))

    def test_through_functions(self):
        others = (("f", ("a",), (("maybe", (), (("none", "b"),)), ("maybe", (call("a", "lift"),), ()), ("return", "a"))),)
        body = (new("x", "box"), ("run", "x", "f", ("x",)), call("x", "lower"), ("run", "x", "f", ("x",)), call("x", "lower"))
        self.check(program_of(body, *others), 8, (0, 2), ("barred", "box", "shut", "lower"), (0, 1))

    def test_in_a_function_that_is_run(self):
        others = (("f", ("a",), (("maybe", (), (call("a", "m"),)),)), ("g", (), (("run", None, "f", ("x",)),)))
        self.check(program_of((("run", None, "g", ()),), *others), 4, (1, 0, 1, 0), ("nothing",), (1,))

    def test_a_longer_way_by_fewer_calls(self):
        # f takes seven steps, the block beside it but three.
        others = (("f", (), (("none", "a"),) * 5),)
        body = (("maybe", (("run", None, "f", ()),), (("none", "x"),) * 3), call("x", "m"))
        self.check(program_of(body, *others), 5, (0, 1), ("nothing",), (1,))
        body = (("maybe", (("run", None, "f", ()),), (("none", "x"),) * 12), call("x", "m"))
        self.check(program_of(body, *others), 10, (0, 1), ("nothing",), (0,))

    def test_far_down(self):
        states = [a + b for a in "abcde" for b in "abcdefghijkl"]
        kind = Kind("deep", states[0], states, {(one, "down"): [("yes", other)] for one, other in zip(states, states[1:])})
        inside = (call("a", "down"), ("run", None, "f", ("a",)))
        program = program_of((new("x", "deep"), ("run", None, "f", ("x",))), ("f", ("a",), inside), kinds=[kind])
        self.check(program, 2 + 2 * 59 + 1, (1, 0), ("barred", "deep", states[-1], "down"), ())

    def test_numbers_beyond_all_bounds(self):
        # Each activation runs two of the next state, so the steps double with each state.
        states = [a + b for a in "abcde" for b in "abcdefghijkl"]
        moves = {(one, "down"): [("yes", other)] for one, other in zip(states, states[1:])}
        moves.update({(one, "up"): [("yes", other)] for one, other in zip(states[1:], states)})
        moves.update({(one, "more"): [("yes", one)] for one in states[:-1]})
        moves[states[-1], "more"] = [("no", states[-1])]
        kind = Kind("deep", states[0], states, moves)
        twice = (call("a", "down"), ("run", None, "f", ("a",)), ("run", None, "f", ("a",)), call("a", "up"))
        others = (("f", ("a",), (("test", "a", "more", twice, ()),)),)
        program = program_of((new("x", "deep"), ("run", None, "f", ("x",)), call("y", "m")), *others, kinds=[kind])
        # An activation in the last state makes two steps: the test and its END; one ahead of it 8 more than two of those.
        steps = 2
        for _ in range(59):
            steps = 2 * steps + 8
        self.assertEqual(steps_to_wrong(program), (steps + 4, (0, 2), ("nothing",)))
        with self.assertRaises(TooLong) as caught:
            wrong_run(program)
        self.assertEqual(caught.exception.many, steps + 4)
        with self.assertRaises(TooLong) as caught:
            run_to(program, main_row((0, 2), (1, 0), (("deep", states[0]),)))
        self.assertEqual(caught.exception.many, steps + 3)

    def long(self, many):
        """A program in which the first wrong step is number `many`; most ways are longer."""
        rest = many - 1
        body = [("none", "x")] * min(rest, 190)
        others = []
        if rest > 190:
            # A run makes two steps of its own, and the END of what is run is one.
            body = [("none", "x")] * 180 + [("run", None, "f", ())]
            rest -= 183
            others.append(("f", (), [("none", "x")] * min(rest, 190)))
            rest -= min(rest, 190)
            body += [("none", "x")] * min(rest, 10)
            rest -= min(rest, 10)
            if rest > 0:
                body.append(("run", None, "g", ()))
                others.append(("g", (), [("none", "x")] * (rest - 3)))
        return program_of(tuple(body) + (call("x", "m"), ("loop", ())), *others)

    def test_four_hundred(self):
        for many in (1, 100, 300, 399, 400):
            program = self.long(many)
            steps, place, why = steps_to_wrong(program)
            self.check(program, many, place, ("nothing",))
        for many in (401, 402, 450):
            program = self.long(many)
            self.assertEqual(steps_to_wrong(program)[0], many)
            with self.assertRaises(TooLong) as caught:
                wrong_run(program)
            self.assertEqual(caught.exception.many, many)

    def test_choices_below_the_number_of_options(self):
        body = (new("x", "box"), ("try", (call("x", "kick"), ("maybe", (), (call("x", "lower"),))), ((("F", "E"), ()),)), new("x"))
        program = program_of(body)
        found = wrong_run(program)
        self.assertEqual(found, (0,))
        self.assertEqual(steps_to_wrong(program), (3, (0, 2), ("dropped", "box", "ajar")))


class Rows(unittest.TestCase):
    def check(self, program, row, steps, choices=None, **more):
        found = run_to(program, row, **more)
        self.assertEqual([type(found), type(found[0]), type(found[1])], [tuple, int, tuple])
        self.assertEqual(found[0], steps)
        if choices is not None:
            self.assertEqual(found[1], choices)
        one = walk(program, found[1], most=steps + 1, **more)
        self.assertEqual(one.rows()[steps], row)

    def test_the_begin(self):
        self.check(make_program(), main_row((0, 0), (0, 0)), 0, ())

    def test_the_program_of_the_document(self):
        entry = ((1, 1), (("file", "new"),))
        self.check(make_program(), main_row((0, 3), (1, 0), (("file", "new"),), ("raise", "LOST")), 5, (0, 0))
        self.check(make_program(), ("twice", entry, (1, 0), ((1, 1), (("file", "new"),), ())), 2, ())
        self.check(make_program(), ("twice", entry, (1, 1), ((1, 1), (("file", "open"),), ())), 4, (0, 1))
        self.check(make_program(), main_row((0, 2), (1, 1), (("file", "open"),)), 7, (0, 1))

    def test_rows_that_do_not_come(self):
        self.assertIsNone(run_to(make_program(), main_row((0, 2), (1, 1), (("file", "shut"),))))
        self.assertIsNone(run_to(make_program(), main_row((0, 3), (1, 1), (("file", "open"),))))
        row = main_row((0, 3), (1, 1), (("file", "new"),), ("raise", "GUARD"))
        self.assertIsNone(run_to(make_program(), row))
        self.check(make_program(), row, 7, (1,), guards=[(0, 2)])

    def test_a_row_of_a_function_that_is_run_by_several(self):
        others = (("f", ("a",), (WAIT,)), ("g", (), (("run", None, "f", ("a",)),)))
        body = (("maybe", (("run", None, "g", ()),), (("none", "x"), ("run", None, "f", ("x",)))),)
        row = ("f", ((0,), ()), (1, 0), ((0,), (), ()))
        self.check(program_of(body, *others), row, 3)
        body = (("maybe", (("run", None, "g", ()),), (("none", "x"), ("none", "x"), ("run", None, "f", ("x",)))),)
        self.check(program_of(body, *others), row, 3, (0,))

    def test_the_last_activation_that_was_begun(self):
        # A deeper activation stands there with other choices than the first one.
        others = (("f", ("a",), (("maybe", (("none", "b"),), (new("b"), ("run", None, "f", ("b",)))), WAIT)),)
        program = program_of((("run", None, "f", ("x",)),), *others)
        self.check(program, ("f", ((1,), (("plain", "s"),)), (1, 1), ((1, 0), (("plain", "s"),), ())), 6, (1, 0))

    def test_four_hundred(self):
        body = [("none", "x")] * 190
        program = program_of(body + [("run", None, "f", ())], ("f", (), body + [("run", None, "g", ())]), ("g", (), body))
        for steps, at in ((400, 18), (399, 17)):
            self.check(program, ("g", ((), ()), (2, at), ((0,), (), ())), steps, ())
        for at in (19, 20, 190):
            with self.assertRaises(TooLong) as caught:
                run_to(program, ("g", ((), ()), (2, at), ((0,), (), ())))
            self.assertEqual(caught.exception.many, 382 + at)

    def test_lists_for_tuples(self):
        row = ["main", [[], []], [0, 2], [[1, 1], [["file", "open"]], []]]
        self.assertEqual(run_to(make_program(), row), (7, (0, 1)))
        self.assertEqual(row, ["main", [[], []], [0, 2], [[1, 1], [["file", "open"]], []]])


class Drawn(unittest.TestCase):
    """Tables, walks and shortest runs agree with one another, and with what can be found one by one."""

    def test_fewest_steps(self):
        for chance, program, guards in draw_all(90, 200, recursive=False):
            rows, wrongs, whole = reach(program, 5, 1500, guards)
            if whole:
                first = min([(steps,) + told for told, steps in wrongs.items()], default=None)
                self.assertEqual(steps_to_wrong(program, guards=guards), first)
                for row in rows:
                    self.assertEqual(run_to(program, row, guards=guards)[0], rows[row])

    def test_each_row_of_a_table_is_reached(self):
        for chance, program, guards in draw_all(91, 150):
            found = table(program, guards=guards).rows()
            for row in chance.sample(found, min(20, len(found))):
                steps, choices = run_to(program, row, guards=guards)
                one = walk(program, choices, most=steps + 1, guards=guards)
                self.assertEqual(one.rows()[steps], row)
                one = walk(program, choices, guards=guards)
                self.assertGreaterEqual(one.used(), len(choices))

    def test_wrong_runs(self):
        wrong = 0
        for chance, program, guards in draw_all(92, 250):
            first = steps_to_wrong(program, guards=guards)
            found = wrong_run(program, guards=guards)
            self.assertEqual(first is None, table(program, guards=guards).is_safe())
            self.assertEqual(found is None, first is None)
            if first is not None:
                wrong += 1
                one = walk(program, found, most=first[0], guards=guards)
                self.assertEqual((one.end(), one.steps(), one.used()), (("wrong",) + first[1:], first[0], len(found)))
        self.assertGreater(wrong, 50)

    def test_choices_are_below_the_number_of_options(self):
        longer = 0
        for chance, program, guards in draw_all(93, 150):
            found = wrong_run(program, guards=guards)
            if found:
                # The same runs are told by runs, which tells no other choices.
                told = [choices for choices, _ in runs(program, min(len(found), 12), guards=guards)]
                self.assertIn(found[:12], told)
                longer += 1
        self.assertGreater(longer, 10)


class KindsThatAllowMore(unittest.TestCase):
    def test_more_moves_and_ends(self):
        chance = random.Random(94)
        for _ in range(100):
            program = draw_program(chance, 15)
            here, there = steps_to_wrong(program), steps_to_wrong(widened(chance, program))
            # What goes wrong with more moves and ends goes wrong without them, at that step or ahead of it.
            if here is None:
                self.assertIsNone(there)
            elif there is not None:
                self.assertLessEqual(here, there)


if __name__ == "__main__":
    unittest.main()
