"""Section 8: papers, and who judges them."""

import random
import unittest

from drawn import draw_all
from judge import fault, is_row
from rightstate.errors import NotSafe
from rightstate.kinds import Kind
from rightstate.papers import paper_fault, paper_of
from rightstate.tables import summary, table
from samples import make_program
from things import EMPTY, WAIT, call, main_row, new, program_of

FILE, OPEN = ("file", "new"), ("file", "open")
ENTRY = ((1, 1), (FILE,))
SHUT, AJAR, THING = ("box", "shut"), ("box", "ajar"), ("plain", "s")
DONE = ("main", EMPTY, ("return", (), ("none",)))


def paper_of_table(program, guards=()):
    """The rows and exits of a table, safe or not."""
    found = table(program, guards=guards)
    return found.rows(), [(function, entry, way) for function, entry in found.entries() for way in found.exits(function, entry)]


class Safe(unittest.TestCase):
    def test_small(self):
        program = program_of((new("x", "box"), ("run", "y", "f", ("x",))), ("f", ("a",), (("return", "a"),)))
        entry = ((1,), (SHUT,))
        rows, exits = paper_of(program)
        self.assertEqual(rows, [
            ("f", entry, (1, 0), ((1,), (SHUT,), ())), ("f", entry, (1, 1), ((1,), (SHUT,), ("return", 1))),
            main_row((0, 0), (0, 0)), main_row((0, 1), (1, 0), (SHUT,)), main_row((0, 1), (1, 0), (SHUT,), ("take", 1)),
            main_row((0, 2), (1, 1), (SHUT,))])
        self.assertEqual(exits, [("f", entry, ("return", ("shut",), ("old", 1))), DONE])
        self.assertIsNone(paper_fault(program, rows, exits))

    def test_exits_are_sorted(self):
        guards = [(0, 2), (0, 3)]
        rows, exits = paper_of(make_program(), guards=guards)
        self.assertEqual(rows, table(make_program(), guards=guards).rows())
        self.assertEqual(exits, [
            ("main", EMPTY, ("GUARD", (), ("none",))), ("main", EMPTY, ("LOST", (), ("none",))),
            ("twice", ENTRY, ("LOST", ("new",), ("none",))), ("twice", ENTRY, ("return", ("new",), ("old", 1))),
            ("twice", ENTRY, ("return", ("open",), ("old", 1)))])
        self.assertIsNone(paper_fault(make_program(), rows, exits, guards=guards))

    def test_not_safe(self):
        with self.assertRaises(NotSafe) as caught:
            paper_of(make_program())
        self.assertEqual((caught.exception.place, caught.exception.why), ((0, 2), ("barred", "file", "new", "enter")))
        with self.assertRaises(NotSafe) as caught:
            paper_of(make_program(), guards=[(0, 2)])
        self.assertEqual((caught.exception.place, caught.exception.why), ((0, 3), ("dropped", "file", "open")))

    def test_kinds_of_values(self):
        found = paper_of(program_of(()))
        self.assertEqual([type(found)] + [type(part) for part in found], [tuple, list, list])
        found[0].clear()
        found[1].clear()
        self.assertEqual(paper_of(program_of(())), ([main_row((0, 0))], [DONE]))

    def test_what_never_ends_has_no_exits(self):
        program = program_of((("run", None, "f", ()),), ("f", (), (("run", None, "f", ()),)))
        rows, exits = paper_of(program)
        self.assertEqual((len(rows), exits), (2, []))
        self.assertIsNone(paper_fault(program, rows, []))


class Faults(unittest.TestCase):
    PROGRAM = program_of((new("x", "box"), ("try", (("run", "y", "f", ("x",)),), ((("E",), ()),))),
                         ("f", ("a",), (("maybe", (("raise", "E"),), (("return", "a"),)),)))

    def setUp(self):
        self.rows, self.exits = paper_of(self.PROGRAM)

    def test_in_any_order(self):
        chance = random.Random(81)
        for _ in range(20):
            chance.shuffle(self.rows)
            chance.shuffle(self.exits)
            self.assertIsNone(paper_fault(self.PROGRAM, self.rows, tuple(self.exits)))
            self.assertIsNone(paper_fault(self.PROGRAM, tuple(self.rows * 2), self.exits * 2))

    def test_lists_for_tuples(self):
        def lists(thing):
            return [lists(one) for one in thing] if isinstance(thing, tuple) else thing
        self.assertIsNone(paper_fault(self.PROGRAM, [lists(row) for row in self.rows], [lists(one) for one in self.exits]))

    def test_begin(self):
        rows = [row for row in self.rows if row != main_row((0, 0), (0, 0))]
        self.assertEqual(paper_fault(self.PROGRAM, rows, self.exits), ("begin",))
        self.assertEqual(paper_fault(self.PROGRAM, [], []), ("begin",))
        self.assertEqual(paper_fault(self.PROGRAM, (), ()), ("begin",))

    def test_each_row_is_missed(self):
        for row in self.rows:
            rest = [one for one in self.rows if one != row]
            found = paper_fault(self.PROGRAM, rest, self.exits)
            if row != main_row((0, 0), (0, 0)):
                self.assertEqual((found[0], found[2]), ("step", row))
                self.assertEqual(found, fault(self.PROGRAM, rest, self.exits))

    def test_each_exit_is_missed(self):
        for told in self.exits:
            rest = [one for one in self.exits if one != told]
            found = paper_fault(self.PROGRAM, self.rows, rest)
            self.assertEqual((found[0], found[2]), ("exit", told[2]))
            self.assertEqual(self.rows[found[1]][:2], told[:2])

    def test_the_first_of_several(self):
        entry = ((1,), (SHUT,))
        begin, run = main_row((0, 0), (0, 0)), main_row((0, 1, 0, 0), (1, 0), (SHUT,))
        inside = ("f", entry, (1, 0), ((1,), (SHUT,), ()))
        exits = [("f", entry, ("return", ("shut",), ("old", 1))), ("f", entry, ("E", ("shut",), ("none",)))]
        back, caught = main_row((0, 1, 0, 0), (1, 0), (SHUT,), ("take", 1)), main_row((0, 2), (1, 0), (SHUT,))
        self.assertEqual(paper_fault(self.PROGRAM, [begin], []), ("step", 0, run))
        self.assertEqual(paper_fault(self.PROGRAM, [run, begin], []), ("step", 0, inside))
        self.assertEqual(paper_fault(self.PROGRAM, [begin, run], exits), ("step", 1, inside))
        # First the row at which the activation begins, then those behind its exits, in the order of the paper.
        self.assertEqual(paper_fault(self.PROGRAM, [begin, run, inside], exits), ("step", 1, back))
        self.assertEqual(paper_fault(self.PROGRAM, [begin, run, inside], exits[::-1]), ("step", 1, caught))
        # The options of maybe in their order.
        one, other = [("f", entry, (1, 0, at, 0), ((1,), (SHUT,), ())) for at in (0, 1)]
        self.assertEqual(paper_fault(self.PROGRAM, [begin, run, inside], []), ("step", 2, one))
        self.assertEqual(paper_fault(self.PROGRAM, [begin, run, inside, one], []), ("step", 2, other))
        end = ("f", entry, (1, 1), ((1,), (SHUT,), ("raise", "E")))
        self.assertEqual(paper_fault(self.PROGRAM, [begin, run, inside, one, other], []), ("step", 3, end))
        self.assertEqual(paper_fault(self.PROGRAM, [end, begin], []), ("exit", 0, ("E", ("shut",), ("none",))))

    def test_wrong_steps(self):
        begin = main_row((0, 0), (0,))
        program = program_of((call("x", "m"),))
        self.assertEqual(paper_fault(program, [begin], []), ("wrong", 0, ("nothing",)))
        rows, exits = paper_of_table(make_program())
        self.assertEqual(paper_fault(make_program(), rows, exits), ("wrong", 4, ("barred", "file", "new", "enter")))
        self.assertEqual(paper_fault(make_program(), rows[::-1], exits), ("wrong", 8, ("barred", "file", "open", "enter")))

    def test_options_go_wrong_one_by_one(self):
        # The hold alone has the object; exit leaves it in an end or not.
        kind = Kind("k", "s", ["s"], {("s", "enter"): [("yes", "t")], ("t", "exit"): [("yes", "s"), ("no", "u"), ("E", "u")]})
        program = program_of((new("x", "k"), ("with", "x", (("none", "x"),))), kinds=[kind])
        row = main_row((0, 1, 1), (0, 1), (("k", "t"),))
        begin = main_row((0, 0), (0,))
        end = main_row((0, 2), (0,))
        self.assertEqual(paper_fault(program, [row, begin], []), ("wrong", 0, ("dropped", "k", "u")))
        calm = program.replaced(Kind("k", "s", ["s"], {("s", "enter"): [("yes", "t")], ("t", "exit"): [("no", "s"), ("yes", "u")]}))
        self.assertEqual(paper_fault(calm, [row, begin], []), ("step", 0, end))
        self.assertEqual(paper_fault(calm, [row, begin, end], []), ("wrong", 0, ("dropped", "k", "u")))
        self.assertEqual(paper_fault(calm, [row, begin, end], [], guards=[(0, 1, 1)])[:2], ("step", 1))

    def test_forms_go_ahead_of_all(self):
        self.assertEqual(paper_fault(self.PROGRAM, [self.rows[0], None], None), ("rows", 1))
        self.assertEqual(paper_fault(self.PROGRAM, [], [DONE, None]), ("exits", 1))
        self.assertEqual(paper_fault(self.PROGRAM, None, None), ("rows", -1))
        self.assertEqual(paper_fault(self.PROGRAM, [], None), ("exits", -1))

    def test_guards(self):
        rows, exits = paper_of(make_program(), guards=make_program().points())
        self.assertIsNone(paper_fault(make_program(), rows, exits, guards=make_program().points()))
        self.assertEqual(paper_fault(make_program(), rows, exits)[0], "wrong")

    def test_what_waits_leads_to_nothing(self):
        program = program_of((WAIT,))
        self.assertIsNone(paper_fault(program, [main_row((0, 0))], []))

    def test_arguments_stay(self):
        rows, exits, guards = [list(row) for row in self.rows], [list(one) for one in self.exits], [[0, 0]]
        copies = repr((rows, exits, guards))
        paper_fault(self.PROGRAM, rows, exits, guards=guards)
        self.assertEqual(repr((rows, exits, guards)), copies)
        found = paper_fault(self.PROGRAM, [list(main_row((0, 0), (0, 0)))], [])
        self.assertEqual(repr(found), repr(("step", 0, main_row((0, 1, 0, 0), (1, 0), (SHUT,)))))


class More(unittest.TestCase):
    """Papers of more than comes."""

    def test_more_rows_and_exits(self):
        # The row behind the loop with an ajar box never comes; what it leads to must be there, too.
        program = program_of((new("x", "box"), ("loop", ()), ("test", "x", "lift", (call("x", "lower"),), ())))
        rows, exits = paper_of(program)
        more = main_row((0, 2, 0, 0), (1,), (AJAR,))
        self.assertIsNone(paper_fault(program, rows + [more], exits))
        more = main_row((0, 1), (1,), (("lock", "free"),))
        self.assertEqual(paper_fault(program, rows + [more], exits), ("step", len(rows), main_row((0, 2), (1,), (("lock", "free"),))))
        more = main_row((0, 2), (1,), (("lock", "free"),))
        self.assertEqual(paper_fault(program, rows + [more], exits), ("wrong", len(rows), ("barred", "lock", "free", "lift")))
        more = main_row((0, 3), (1,), (AJAR,))
        self.assertEqual(paper_fault(program, rows + [more], exits), ("wrong", len(rows), ("dropped", "box", "ajar")))
        more = main_row((0, 3), (0,), (), ("raise", "ANY"))
        self.assertEqual(paper_fault(program, rows + [more], exits), ("exit", len(rows), ("ANY", (), ("none",))))
        self.assertIsNone(paper_fault(program, rows + [more], exits + [("main", EMPTY, ("ANY", (), ("none",)))]))

    def test_entries_that_never_come(self):
        program = program_of((("run", "x", "f", ("x",)),), ("f", ("a",), (("return", "a"),)))
        rows, exits = paper_of(program)
        entry = ((1,), (("box", "ajar"),))
        part = summary(program, "f", entry)
        ways = [("f", entry, way) for way in part.exits("f", entry)]
        self.assertIsNone(paper_fault(program, part.rows() + rows, exits + ways))
        self.assertEqual(paper_fault(program, rows + part.rows(), exits), ("exit", len(rows) + 1, ("return", ("ajar",), ("old", 1))))

    def test_exits_that_never_come(self):
        program = program_of((("run", "x", "f", ()),), ("f", (), ()))
        rows, exits = paper_of(program)
        more = ("f", EMPTY, ("return", (), ("new", "box", "ajar")))
        behind = main_row((0, 0), (0,), (AJAR,), ("take", 1))
        at = rows.index(main_row((0, 0), (0,)))
        self.assertEqual(paper_fault(program, rows, exits + [more]), ("step", at, behind))
        self.assertEqual(paper_fault(program, [behind] + rows, exits + [more]), ("step", 0, main_row((0, 1), (1,), (AJAR,))))
        rows += [behind, main_row((0, 1), (1,), (AJAR,))]
        self.assertEqual(paper_fault(program, rows, exits + [more]), ("wrong", len(rows) - 1, ("dropped", "box", "ajar")))
        more = ("f", EMPTY, ("OTHER", (), ("none",)))
        self.assertEqual(paper_fault(program, rows[:4], exits + [more]),
                         ("step", at, main_row((0, 1), (0,), (), ("raise", "OTHER"))))

    def test_pendings_of_all_sorts_at_an_exit(self):
        body = (new("x", "lock"), ("loop", (("with", "x", ()), ("loop", ()))), ("none", "x"))
        program = program_of(body)
        rows, exits = paper_of(program)
        held, free = ("lock", "held"), ("lock", "free")
        for pending, behind in (
                ((), main_row((0, 1, 0, 1), (1,), (free,))), (("leave",), main_row((0, 2), (1,), (free,))),
                (("again",), main_row((0, 1), (1,), (free,))), (("return", 0), main_row((0, 3), (1,), (free,), ("return", 0))),
                (("return", 1), main_row((0, 3), (1,), (free,), ("return", 1))),
                (("raise", "ANY"), main_row((0, 3), (1,), (free,), ("raise", "ANY")))):
            row = main_row((0, 1, 0, 0, 1), (1, 1), (held,), pending)
            rest = [one for one in rows if one != behind]
            self.assertEqual(paper_fault(program, [row] + rest, exits), ("step", 0, behind))

    def test_the_pending_value_is_held_until_it_is_lost(self):
        body = (new("x", "lock"), ("with", "x", ()))
        program = program_of(body)
        row = main_row((0, 1, 1), (1, 1), (("lock", "jammed"), AJAR), ("return", 2))
        self.assertEqual(paper_fault(program, [row, main_row((0, 0), (0,))], []), ("wrong", 0, ("dropped", "box", "ajar")))
        row = main_row((0, 1, 1), (1, 1), (("lock", "held"), AJAR), ("return", 2))
        self.assertEqual(paper_fault(program, [row, main_row((0, 0), (0,))], []),
                         ("step", 0, main_row((0, 2), (1,), (("lock", "free"), AJAR), ("return", 2))))


class Drawn(unittest.TestCase):
    def test_papers_of_tables(self):
        for chance, program, guards in draw_all(82, 200, (5, 15)):
            rows, exits = paper_of_table(program, guards)
            found = paper_fault(program, rows, exits, guards=guards)
            if table(program, guards=guards).is_safe():
                self.assertIsNone(found)
                self.assertEqual(paper_of(program, guards=guards), (rows, exits))
            else:
                self.assertEqual(found[0], "wrong")
            self.assertEqual(found, fault(program, rows, exits, guards))

    def test_papers_that_lack_something(self):
        for chance, program, guards in draw_all(83, 100, (5, 15)):
            rows, exits = paper_of_table(program, guards)
            chance.shuffle(rows)
            chance.shuffle(exits)
            for _ in range(4):
                some = rows[:chance.randint(0, len(rows))] if chance.random() < 0.7 else rows
                ways = exits[:chance.randint(0, len(exits))] if chance.random() < 0.7 else exits
                self.assertEqual(paper_fault(program, some, ways, guards=guards), fault(program, some, ways, guards))

    def spoil(self, chance, program, row):
        """A row with one part that is another."""
        function, entry, place, (refs, objects, pending) = row
        states = [(kind, chance.choice(["s", "t", "u"])) for kind, _ in objects]
        pendings = [(), ("leave",), ("again",), ("raise", "E"), ("return", 0), ("return", 1), ("return", len(objects) + 1),
                    ("take", 0), ("take", 1), ("take", 2)]
        moved = tuple([max(0, ref + chance.choice([0, 0, 1, -1])) for ref in refs])
        more = chance.choice(["k", "l"])
        return chance.choice([
            (function, entry, chance.choice(program.points()), (refs, objects, pending)),
            (function, entry, place, (moved, objects, pending)),
            (function, entry, place, (refs, tuple(states), pending)),
            (function, entry, place, (refs, objects, chance.choice(pendings))),
            (function, entry, place, (refs, objects + ((more, "s"),), chance.choice(pendings))),
            (function, entry, place, (refs, objects[:-1], pending)),
            (function, (entry[0], tuple(states)[:len(entry[1])]), place, (refs, objects, pending)),
            (chance.choice(["main", "f", "g"]), entry, place, (refs, objects, pending)),
        ])

    def test_rows_that_never_come(self):
        rights = wrongs = 0
        for chance, program, guards in draw_all(84, 150, (5, 15)):
            rows, exits = paper_of_table(program, guards)
            for _ in range(10):
                row = self.spoil(chance, program, chance.choice(rows))
                if chance.random() < 0.3:
                    row = self.spoil(chance, program, row)
                found = paper_fault(program, [row] + rows, exits, guards=guards)
                self.assertEqual(found != ("rows", 0), is_row(program, row), row)
                self.assertEqual(found, fault(program, [row] + rows, exits, guards))
                rights += found != ("rows", 0)
                wrongs += found == ("rows", 0)
        self.assertGreater(min(rights, wrongs), 300)


class TwoKinds(unittest.TestCase):
    """Rows of objects of two kinds."""

    PROGRAM = program_of((new("x", "box"), new("y", "lock"), ("run", "x", "f", ("x", "y")), call("x", "m")),
                         ("f", ("a", "b"), (("return", "b"),)))

    def test_kinds_of_the_entry(self):
        entry = ((1, 2), (SHUT, ("lock", "free")))
        right = ("f", entry, (1, 0), ((1, 2), (AJAR, ("lock", "hot")), ()))
        self.assertEqual(paper_fault(self.PROGRAM, [right], []), ("begin",))
        for objects in (((("lock", "free"), SHUT)), (SHUT, SHUT), (AJAR, ("plain", "s")), (("lock", "free"), ("lock", "free"))):
            row = ("f", entry, (1, 0), ((1, 2), objects, ()))
            self.assertEqual(paper_fault(self.PROGRAM, [row], []), ("rows", 0))
        # A state of the other kind.
        row = ("f", entry, (1, 0), ((1, 2), (("box", "free"), ("lock", "free")), ()))
        self.assertEqual(paper_fault(self.PROGRAM, [row], []), ("rows", 0))

    def test_states_of_exits(self):
        entry = ((1, 2), (SHUT, ("lock", "free")))
        for states, right in ((("ajar", "burnt"), True), (("free", "shut"), False), (("shut", "shut"), False), (("free", "free"), False)):
            found = paper_fault(self.PROGRAM, [], [("f", entry, ("return", states, ("none",)))])
            self.assertEqual(found, ("begin",) if right else ("exits", 0))
        for value, right in ((("new", "box", "ajar"), True), (("new", "box", "free"), False), (("new", "lock", "hot"), True)):
            found = paper_fault(self.PROGRAM, [], [("f", entry, ("return", ("shut", "free"), value))])
            self.assertEqual(found, ("begin",) if right else ("exits", 0))

    def test_other_kinds_of_new_objects(self):
        # What the entry has not may be of any kind.
        entry = ((0, 0), ())
        for thing in (SHUT, AJAR, THING, ("lock", "twice")):
            self.assertEqual(paper_fault(self.PROGRAM, [("f", entry, (1, 0), ((0, 1), (thing,), ()))], []), ("begin",))


if __name__ == "__main__":
    unittest.main()
