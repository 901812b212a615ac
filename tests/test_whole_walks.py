"""Sections 6 and 7: whole walks by all choices, with their rows; and runs."""

import random
import types
import unittest

from drawn import draw_guards, draw_program
from reference import Places, all_runs, follow
from rightstate.walks import runs, walk
from samples import make_program
from things import WAIT, call, main_row, new, program_of

FILE = ("file", "new")
ENTRY = ((1, 1), (FILE,))
HEAD = [main_row((0, 0), (0, 0)), main_row((0, 1), (1, 0), (FILE,)), ("twice", ENTRY, (1, 0), ((1, 1), (FILE,), ()))]
OPEN = ("file", "open")


def told(found):
    return (found.end(), found.used(), found.steps(), found.places(), found.calls(), found.objects(), found.rows())


class TheProgramOfTheDocument(unittest.TestCase):
    def check(self, choices, end, used, places, calls, objects, rows):
        found = walk(make_program(), choices)
        self.assertEqual(told(found), (end, used, len(places), places, calls, objects, HEAD[:3] + rows))

    def test_all_choices(self):
        self.check([], ("open",), 0, [(0, 0), (0, 1)], [], [FILE], [])
        self.check([0], ("open",), 1, [(0, 0), (0, 1), (1, 0)], [], [FILE],
                   [("twice", ENTRY, (1, 0, 0, 0), ((1, 1), (FILE,), ()))])
        self.check([1], ("wrong", (0, 2), ("barred", "file", "new", "enter")), 1,
                   [(0, 0), (0, 1), (1, 0), (1, 1), (1, 2), (0, 1), (0, 2)], [], [FILE], [
                       ("twice", ENTRY, (1, 1), ((1, 1), (FILE,), ())),
                       ("twice", ENTRY, (1, 2), ((1, 1), (FILE,), ("return", 1))),
                       main_row((0, 1), (1, 0), (FILE,), ("take", 1)),
                       main_row((0, 2), (1, 1), (FILE,))])
        self.check([0, 0], ("raised", "LOST"), 2, [(0, 0), (0, 1), (1, 0), (1, 0, 0, 0), (1, 2), (0, 3)],
                   [(0, "open", "LOST", "new")], [FILE], [
                       ("twice", ENTRY, (1, 0, 0, 0), ((1, 1), (FILE,), ())),
                       ("twice", ENTRY, (1, 2), ((1, 1), (FILE,), ("raise", "LOST"))),
                       main_row((0, 3), (1, 0), (FILE,), ("raise", "LOST"))])
        self.check([0, 1], ("wrong", (0, 2), ("barred", "file", "open", "enter")), 2,
                   [(0, 0), (0, 1), (1, 0), (1, 0, 0, 0), (1, 1), (1, 2), (0, 1), (0, 2)],
                   [(0, "open", "no", "open")], [OPEN], [
                       ("twice", ENTRY, (1, 0, 0, 0), ((1, 1), (FILE,), ())),
                       ("twice", ENTRY, (1, 1), ((1, 1), (OPEN,), ())),
                       ("twice", ENTRY, (1, 2), ((1, 1), (OPEN,), ("return", 1))),
                       main_row((0, 1), (1, 0), (OPEN,), ("take", 1)),
                       main_row((0, 2), (1, 1), (OPEN,))])

    def test_runs(self):
        wrong = [("wrong", (0, 2), ("barred", "file", state, "enter")) for state in ("new", "open")]
        self.assertEqual(list(runs(make_program(), 0)), [((), ("open",))])
        self.assertEqual(list(runs(make_program(), 1)), [((0,), ("open",)), ((1,), wrong[0])])
        for many in range(2, 13):
            self.assertEqual(list(runs(make_program(), many)),
                             [((0, 0), ("raised", "LOST")), ((0, 1), wrong[1]), ((1,), wrong[0])])
        self.assertEqual(list(runs(make_program(), 2, most=7)),
                         [((0, 0), ("raised", "LOST")), ((0, 1), ("spent",)), ((1,), wrong[0])])
        self.assertEqual(list(runs(make_program(), 2, most=2)), [((), ("spent",))])
        self.assertEqual(list(runs(make_program(), 2, guards=[(0, 2)])),
                         [((0, 0), ("raised", "LOST")), ((0, 1), ("wrong", (0, 3), ("dropped", "file", "open"))),
                          ((1,), ("raised", "GUARD"))])


class Numbers(unittest.TestCase):
    """Objects are numbered as refs and then the pending name them, those of the entry first."""

    def rows(self, body, choices=(), others=()):
        return walk(program_of(body, *others), choices).rows()

    def test_anew_in_each_row(self):
        body = (new("y"), new("x", "box"), new("z", "lock"), ("copy", "y", "z"), ("none", "x"), ("copy", "x", "y"))
        plain, box, lock = ("plain", "s"), ("box", "shut"), ("lock", "free")
        self.assertEqual([row[3] for row in self.rows(body)], [
            ((0, 0, 0), (), ()), ((1, 0, 0), (plain,), ()), ((1, 2, 0), (plain, box), ()), ((1, 2, 3), (plain, box, lock), ()),
            ((1, 2, 1), (lock, box), ()), ((1, 0, 1), (lock,), ()), ((1, 1, 1), (lock,), ())])

    def test_holds_behind_variables(self):
        body = (new("x", "lock"), ("with", "x", (("copy", "y", "x"), new("x"), ("none", "y"))))
        self.assertEqual([row[3][:2] for row in self.rows(body)][2:], [
            ((1, 0, 1), (("lock", "held"),)), ((1, 1, 1), (("lock", "held"),)),
            ((1, 2, 2), (("plain", "s"), ("lock", "held"))), ((1, 0, 2), (("plain", "s"), ("lock", "held"))),
            ((1, 0), (("plain", "s"),))])

    def test_the_entry_comes_first_though_nothing_names_it(self):
        others = (("f", ("a", "b"), (new("c", "box"), ("none", "a"), ("copy", "b", "c"), ("copy", "a", "c"))),)
        rows = self.rows((new("x"), new("y", "lock"), ("run", None, "f", ("x", "y"))), others=others)
        plain, lock, box = ("plain", "s"), ("lock", "free"), ("box", "shut")
        self.assertEqual([row[3] for row in rows if row[0] == "f"], [
            ((1, 2, 0), (plain, lock), ()), ((1, 2, 3), (plain, lock, box), ()), ((0, 2, 3), (plain, lock, box), ()),
            ((0, 3, 3), (plain, lock, box), ()), ((3, 3, 3), (plain, lock, box), ())])

    def test_values_in_the_pending_come_last(self):
        inside = (new("c", "box"), ("copy", "d", "c"), ("none", "c"), ("return", "d"))
        others = (("f", ("a",), (("with", "a", inside), WAIT)),)
        rows = self.rows((new("x", "lock"), ("run", "x", "f", ("x",)), WAIT), others=others)
        held, free, box = ("lock", "held"), ("lock", "free"), ("box", "shut")
        self.assertEqual([row[3] for row in rows][6:], [
            ((1, 0, 2, 1), (held, box), ()), ((1, 0, 2, 1), (held, box), ("return", 2)), ((1, 0, 2), (free, box), ("return", 2)),
            ((1,), (free, box), ("take", 2)), ((1,), (box,), ())])
        self.assertEqual([row[2] for row in rows][6:], [(1, 0, 0, 3), (1, 0, 1), (1, 2), (0, 1), (0, 2)])

    def test_take_of_none(self):
        rows = self.rows((("run", "x", "f", ()), WAIT), others=(("f", (), ()),))
        self.assertEqual(rows, [main_row((0, 0), (0,)), ("f", ((), ()), (1, 0), ((), (), ())),
                                main_row((0, 0), (0,), (), ("take", 0)), main_row((0, 1), (0,))])


class Drawn(unittest.TestCase):
    """Drawn programs walk as the words of the document tell (reference.py)."""

    def test_points(self):
        chance = random.Random(60)
        for _ in range(200):
            program = draw_program(chance, chance.choice([5, 30]))
            self.assertEqual(program.points(), Places(program).points())

    def test_walks(self):
        chance = random.Random(61)
        for _ in range(500):
            program = draw_program(chance, chance.choice([5, 15, 30]))
            guards = draw_guards(chance, program) if chance.random() < 0.5 else []
            for _ in range(4):
                choices = [chance.randint(0, 5) for _ in range(chance.randint(0, 12))]
                most = chance.choice([1, 4, 40, 200])
                found = walk(program, choices, most=most, guards=guards)
                self.assertEqual(told(found), follow(program, choices, most, guards))

    def test_runs(self):
        chance = random.Random(62)
        for _ in range(200):
            program = draw_program(chance, chance.choice([5, 15]))
            guards = draw_guards(chance, program) if chance.random() < 0.5 else []
            many, most = chance.randint(0, 4), chance.choice([1, 5, 50])
            found = list(runs(program, many, most=most, guards=guards))
            self.assertEqual(found, all_runs(program, many, most, guards))
            self.assertEqual(found, sorted(found))
            for choices, end in found:
                one = walk(program, choices, most=most, guards=guards)
                self.assertEqual((one.end(), one.used()), (end, len(choices)))


class Runs(unittest.TestCase):
    def test_a_generator_of_tuples(self):
        found = runs(make_program(), 2)
        self.assertIsInstance(found, types.GeneratorType)
        for one in found:
            self.assertEqual([type(part) for part in (one,) + one], [tuple] * 3)

    def test_each_when_it_is_asked_for(self):
        kind_of_all = make_program().kinds()[0]
        program = program_of((new("x", "file"), ("loop", (("maybe", (), ()),))), kinds=[kind_of_all])
        found = runs(program, 12)
        self.assertEqual(next(found), ((0,), ("ended",)))
        self.assertEqual(next(found), ((1, 0, 0), ("ended",)))

    def test_without_choices(self):
        self.assertEqual(list(runs(program_of(()), 0)), [((), ("ended",))])
        self.assertEqual(list(runs(program_of(()), 12)), [((), ("ended",))])
        self.assertEqual(list(runs(program_of((("maybe", (), ()),)), 0)), [((), ("open",))])
        self.assertEqual(list(runs(program_of((("maybe", (), ()),)), 1)), [((0,), ("ended",)), ((1,), ("ended",))])

    def test_spent_goes_ahead_of_open(self):
        program = program_of((("loop", ()),))
        self.assertEqual(list(runs(program, 3, most=2)),
                         [((0,), ("ended",)), ((1, 0), ("spent",)), ((1, 1), ("spent",))])
        self.assertEqual(list(runs(program, 2, most=2)),
                         [((0,), ("ended",)), ((1, 0), ("spent",)), ((1, 1), ("spent",))])
        self.assertEqual(list(runs(program, 1, most=2)), [((0,), ("ended",)), ((1,), ("open",))])

    def test_the_default_of_most(self):
        body = [("none", "x")] * 199
        program = program_of(body + [("run", None, "f", ())], ("f", (), body), ("g", (), ()))
        self.assertEqual(list(runs(program, 1)), [((), ("ended",))])
        program = program_of(body + [("run", None, "f", ())], ("f", (), body + [("run", None, "g", ())]), ("g", (), body))
        self.assertEqual(list(runs(program, 1)), [((), ("spent",))])
        self.assertEqual(list(runs(program, 1, most=2000)), [((), ("ended",))])

    def test_all_ways_of_calls(self):
        body = (new("x", "box"), ("try", (call("x", "kick"), ("maybe", (), (WAIT,))), ((("E",), (call("x", "lower"),)), ((), ()))))
        self.assertEqual(list(runs(program_of(body), 5)),
                         [((0,), ("ended",)), ((1,), ("ended",)), ((2, 0), ("ended",)), ((2, 1), ("waits",))])

    def test_many_runs(self):
        program = program_of([("maybe", (), ())] * 13)
        found = list(runs(program, 12))
        self.assertEqual((len(found), found[0], found[-1]), (4096, ((0,) * 12, ("open",)), ((1,) * 12, ("open",))))

    def test_two_at_once(self):
        program = make_program()
        one, other = runs(program, 2), runs(program, 2)
        self.assertEqual([next(one), next(other)] * 1, [((0, 0), ("raised", "LOST"))] * 2)
        self.assertEqual(list(one), list(other))


if __name__ == "__main__":
    unittest.main()
