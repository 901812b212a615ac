"""Section 11: the least guards, why they are needed, and rows of guards that are not right."""

import unittest

from drawn import draw_all
from rightstate.errors import TooLong, TooMany
from rightstate.guarding import guards_fault, least_guards, why_guarded
from rightstate.questions import idle
from rightstate.shortest import steps_to_wrong, wrong_run
from rightstate.tables import table
from rightstate.walks import walk
from samples import make_program, no_rows, rows
from things import BOX, WIDE, call, new, program_of, wide_body, wide_program

TRIED = ("try", (call("y", "m"),), (((), ()),))


class Written(unittest.TestCase):
    def test_the_program_of_the_document(self):
        program = make_program()
        self.assertEqual(least_guards(program), [(0, 2), (0, 3)])
        self.assertEqual(why_guarded(program), {(0, 2): (1,), (0, 3): (0, 1)})
        for places in ([(0, 2), (0, 3)], ([0, 3], [0, 2]), [(0, 3), [0, 2]]):
            self.assertIsNone(guards_fault(program, places))

    def test_safe_programs_need_none(self):
        for body in ((), (new("x", "box"), call("x", "lift"), call("x", "lower")), (("wait",),)):
            program = program_of(body)
            self.assertEqual((least_guards(program), why_guarded(program)), ([], {}))
            self.assertIsNone(guards_fault(program, ()))
            self.assertIsNone(guards_fault(program, []))
            self.assertEqual(guards_fault(program, [(0, len(body))]), ("spare", (0, len(body))))

    def test_what_comes_behind_a_guard_may_need_one(self):
        body = [("try", (call("x", "m"),), ((("GUARD",), (call("y", "m"),)),)), call("z", "m")]
        program = program_of(body)
        self.assertEqual(table(program).wrongs(), [((0, 0, 0, 0), ("nothing",))])
        self.assertEqual(least_guards(program), [(0, 0, 0, 0), (0, 0, 1, 0)])
        self.assertEqual(why_guarded(program), {(0, 0, 0, 0): (), (0, 0, 1, 0): ()})
        body = [("try", (call("x", "m"),), (((), (TRIED,)),)), call("z", "m"), ("none", "x")]
        self.assertEqual(least_guards(program_of(body)), [(0, 0, 0, 0), (0, 0, 1, 0, 0, 0), (0, 1)])

    def test_what_is_dropped_needs_a_guard_where_it_is(self):
        body = [new("x", "box"), call("x", "lift"), ("maybe", (new("x"),), (call("x", "lower"),))]
        self.assertEqual(least_guards(program_of(body)), [(0, 2, 0, 0)])
        self.assertEqual(least_guards(program_of(body[:2])), [(0, 2)])
        self.assertEqual(guards_fault(program_of(body), []), ("unsafe", (0, 2, 0, 0)))

    def test_in_functions(self):
        others = (("f", ("a",), (call("a", "lower"),)), ("g", ("a",), (call("a", "lower"),)))
        program = program_of((new("x", "box"), ("run", None, "f", ("x",)), ("run", None, "g", ("x",))), *others)
        self.assertEqual(least_guards(program), [(1, 0)])
        self.assertEqual(why_guarded(program), {(1, 0): ()})

    def test_faults(self):
        program = make_program()
        for thing in no_rows():
            self.assertEqual(guards_fault(program, thing), ("place", -1))
        for thing in no_rows() + rows() + [(9, 9), (0, True), (0, 0, 0), (0,), ("0", "2")]:
            self.assertEqual(guards_fault(program, [(0, 2), (0, 3), thing]), ("place", 2))
            self.assertEqual(guards_fault(program, [thing, thing]), ("place", 0))
        self.assertEqual(guards_fault(program, [(0, 2), (0, 0), [0, 2], (7, 7)]), ("place", 2))
        self.assertEqual(guards_fault(program, ([0, 3], (0, 3))), ("place", 1))
        self.assertEqual(guards_fault(program, []), ("unsafe", (0, 2)))
        self.assertEqual(guards_fault(program, [(0, 3), (0, 0), (1, 1)]), ("unsafe", (0, 2)))
        self.assertEqual(guards_fault(program, [(1, 1), (0, 2)]), ("unsafe", (0, 3)))
        self.assertEqual(guards_fault(program, [[1, 1], (0, 3), (0, 2), [0, 0], (1, 2)]), ("spare", (0, 0)))
        self.assertEqual(guards_fault(program, [[0, 3], [1, 1], [0, 2]]), ("spare", (1, 1)))

    def test_what_is_told_may_be_changed(self):
        program, places = make_program(), [[0, 2], [0, 3]]
        least_guards(program).append(None)
        why_guarded(program)[0, 3] = None
        guards_fault(program, places)
        self.assertEqual(places, [[0, 2], [0, 3]])
        self.assertEqual(least_guards(program), [(0, 2), (0, 3)])
        self.assertEqual(why_guarded(program), {(0, 2): (1,), (0, 3): (0, 1)})


class Bounds(unittest.TestCase):
    def check_too_many(self, ask, *given):
        with self.assertRaises(TooMany) as caught:
            ask(*given)
        self.assertEqual(caught.exception.many, 4000)

    def test_rows_that_come_only_with_guards(self):
        # The guarded call and the row that it needs come ahead of the rest.
        for many in (4000, 4001):
            program = wide_program(many - 1, [TRIED])
            self.assertEqual(len(table(program)), 1)
            self.assertEqual(guards_fault(program, []), ("unsafe", (0, 0, 0, 0)))
            if many == 4000:
                self.assertEqual(least_guards(program), [(0, 0, 0, 0)])
                self.assertEqual(why_guarded(program), {(0, 0, 0, 0): ()})
                self.assertIsNone(guards_fault(program, [(0, 0, 0, 0)]))
                self.assertEqual(guards_fault(program, [(0, 1), (0, 0, 0, 0)]), ("spare", (0, 1)))
            else:
                self.check_too_many(least_guards, program)
                self.check_too_many(why_guarded, program)
                self.check_too_many(guards_fault, program, [(0, 0, 0, 0)])
                self.check_too_many(guards_fault, program, [(0, 1), (0, 0, 0, 0)])
                self.assertEqual(guards_fault(program, [(0, 0, 0, 0), (7, 7)]), ("place", 1))

    def test_too_many_rows_without_guards(self):
        program = program_of(wide_body(4001) + [call("y", "m")], kinds=[WIDE])
        for ask, given in ((least_guards, ()), (why_guarded, ()), (guards_fault, ([],)), (guards_fault, ([(0, 0)],))):
            self.check_too_many(ask, program, *given)
        self.assertEqual(guards_fault(program, 7), ("place", -1))

    def test_four_hundred_steps(self):
        # Each run of f takes 153 steps: its run statement, 150 statements, END, and the run statement again.
        others = (("f", (), [("none", "a")] * 150),)
        for more in (0, 1):
            body = [("maybe", (("none", "x"),), ())] + [("run", None, "f", ())] * 2 + [("none", "x")] * (92 + more)
            program = program_of(body + [TRIED], *others)
            place = (0, 95 + more, 0, 0)
            self.assertEqual(steps_to_wrong(program), (400 + more, place, ("nothing",)))
            if more == 0:
                self.assertEqual(why_guarded(program), {place: (1,)})
            else:
                with self.assertRaises(TooLong) as caught:
                    why_guarded(program)
                self.assertEqual(caught.exception.many, 401)

    def test_too_long_for_the_first_of_the_guards(self):
        others = [("f", (), [("none", "a")] * 100)]
        runs = [("run", None, "f", ())]
        body = [("maybe", runs * 5 + [TRIED], runs * 4 + [TRIED]), ("maybe", [TRIED], [])]
        program = program_of(body, *others)
        self.assertEqual(least_guards(program), [(0, 0, 0, 5, 0, 0), (0, 0, 1, 4, 0, 0), (0, 1, 0, 0, 0, 0)])
        with self.assertRaises(TooLong) as caught:
            why_guarded(program)
        self.assertEqual(caught.exception.many, 1 + 5 * 103 + 1)


class Drawn(unittest.TestCase):
    def test_least_guards(self):
        needed = 0
        for _, program, _ in draw_all(310, 500, sizes=(4, 8, 12)):
            points = program.points()
            # A point lies in all sets that are enough if all other points are not enough.
            others = {place: [one for one in points if one != place] for place in points}
            least = [place for place in points if not table(program, guards=others[place]).is_safe()]
            self.assertEqual(least_guards(program), least)
            self.assertTrue(table(program, guards=least).is_safe())
            self.assertIsNone(guards_fault(program, least[::-1]))
            needed += len(least)
            self.check_why(program, least)
            self.check_faults(program, points, least)
        self.assertGreater(needed, 200)

    def check_why(self, program, least):
        found = why_guarded(program)
        self.assertEqual(sorted(found), least)
        for place in least:
            others = [one for one in least if one != place]
            self.assertEqual({where for where, _ in table(program, guards=others).wrongs()}, {place})
            self.assertEqual(found[place], wrong_run(program, guards=others))
            steps, where, why = steps_to_wrong(program, guards=others)
            one = walk(program, found[place], guards=others)
            self.assertEqual((one.end(), one.steps(), one.used()), (("wrong", where, why), steps, len(found[place])))

    def check_faults(self, program, points, least):
        for size in (1, 2, 3):
            places = [place for at, place in enumerate(points) if at % size == 0]
            wrongs = table(program, guards=places).wrongs()
            spare = [place for place in places if place not in least]
            expected = ("unsafe", wrongs[0][0]) if wrongs else ("spare", spare[0]) if spare else None
            self.assertEqual(guards_fault(program, places[::-1]), expected)

    def test_more_guards_change_no_idle_moves_ahead(self):
        # With more guards there are more rows, and so at most fewer idle moves.
        for chance, program, guards in draw_all(311, 100):
            more = guards + [place for place in program.points() if place not in guards and chance.random() < 0.3]
            for kind in program.kinds():
                fewer = set(idle(program, kind.name, guards=more))
                self.assertLessEqual(fewer, set(idle(program, kind.name, guards=guards)))


if __name__ == "__main__":
    unittest.main()
