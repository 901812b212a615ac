"""Section 16: books."""

import random
import unittest

from drawn import draw_kind, draw_program
from rightstate.book import Book
from rightstate.errors import NoName, NoThing, RightError, Taken, TooMany
from rightstate.kinds import Kind
from rightstate.programs import Program
from rightstate.shortest import steps_to_wrong
from rightstate.standins import parted
from samples import make_file, make_program, no_names, no_rows, plain_kind, rows
from test_built import make_reader
from things import BOX, LOCK, PLAIN, WIDE, call, new, program_of, wide_body, wide_program

CALM = make_reader().kinds()[0]
# Without a method with which the program of LIFTS goes wrong.
LIFTS = (new("x", "box"), call("x", "lift"), call("x", "lower"))


class Model:
    """A book by the words of the document: two dicts."""

    def __init__(self):
        self.kinds, self.programs = {}, {}

    def put(self, name, thing):
        """The name of the error that is raised, or None."""
        if not isinstance(thing, (Kind, Program)):
            return "NoThing"
        if name in no_names() or not isinstance(name, str) or (isinstance(thing, Kind) and thing.name != name):
            return "NoName"
        if isinstance(thing, Kind):
            if name in self.programs:
                return "Taken"
            self.kinds[name] = thing
        else:
            names = [kind.name for kind in thing.kinds()]
            if name in self.kinds or name in names or set(names) & set(self.programs):
                return "Taken"
            for kind in thing.kinds():
                self.kinds.setdefault(kind.name, kind)
            self.programs[name] = thing
        for one, program in self.programs.items():
            kinds = [self.kinds[kind.name] for kind in program.kinds()]
            self.programs[one] = Program(kinds, program.functions())
        return None

    def told(self):
        return {**self.kinds, **self.programs}

    def changes(self, kind):
        found = []
        for name, program in sorted(self.programs.items()):
            if kind.name in [one.name for one in program.kinds()]:
                now, then = steps_to_wrong(program), steps_to_wrong(program.replaced(kind))
                if (now is None) != (then is None):
                    found.append(name)
        return found


class Written(unittest.TestCase):
    def test_the_example_of_the_document(self):
        book = Book()
        book["twice"] = make_program()
        self.assertEqual((book.names(), len(book)), (["file", "twice"], 2))
        self.assertEqual(book.verdict("twice"), (7, (0, 2), ("barred", "file", "new", "enter")))
        self.assertEqual(book.changes(CALM), [])
        self.assertEqual((book["file"], book["twice"]), (make_file(), make_program()))

    def test_an_empty_book(self):
        book = Book()
        self.assertEqual((book.names(), len(book), book.changes(BOX), "box" in book), ([], 0, [], False))
        with self.assertRaises(NoName):
            book["box"]
        self.assertEqual(len(Book()), 0)

    def test_kinds(self):
        book = Book()
        book["box"] = BOX
        book["file"] = make_file()
        self.assertEqual((book.names(), book["box"], len(book)), (["box", "file"], BOX, 2))
        book["file"] = CALM
        self.assertEqual((book.names(), book["file"], "file" in book), (["box", "file"], CALM, True))

    def test_a_kind_takes_its_place_in_all_programs(self):
        book = Book()
        book["one"] = make_program()
        book["two"] = Program([BOX, make_file()], [("main", (), ())])
        book["three"] = program_of(())
        book["file"] = CALM
        self.assertEqual(book["one"], make_program().replaced(CALM))
        self.assertEqual(book["two"].kinds(), [BOX, CALM])
        self.assertEqual(book["three"], program_of(()))
        self.assertEqual(book.names(), ["box", "file", "lock", "one", "plain", "three", "two"])

    def test_a_program_takes_the_kinds_of_the_book(self):
        book = Book()
        book["file"] = CALM
        program = Program([BOX, make_file(), PLAIN], [("main", (), ())])
        book["main"] = program
        self.assertEqual(book["main"].kinds(), [BOX, CALM, PLAIN])
        self.assertEqual((book["box"], book["file"], book["plain"]), (BOX, CALM, PLAIN))
        self.assertEqual(program.kinds(), [BOX, make_file(), PLAIN])

    def test_a_program_in_the_place_of_another_one(self):
        book = Book()
        book["one"] = program_of(())
        book["one"] = make_program()
        self.assertEqual((book["one"], book.names()), (make_program(), ["box", "file", "lock", "one", "plain"]))
        book["plain"] = Kind("plain", "t", [], {})
        self.assertEqual(book["one"], make_program())

    def test_names_of_programs_that_are_words(self):
        book = Book()
        for name in ("main", "yes", "enter"):
            book[name] = program_of(())
        self.assertEqual(book.names(), ["box", "enter", "lock", "main", "plain", "yes"])


class Refused(unittest.TestCase):
    def setUp(self):
        self.book = Book()
        self.book["box"] = BOX
        self.book["one"] = make_program()

    def check(self, error, name, thing):
        names, before = self.book.names(), [self.book[one] for one in self.book.names()]
        with self.assertRaises(RightError) as caught:
            self.book[name] = thing
        self.assertIs(type(caught.exception), error)
        if error is not NoThing:
            self.assertIs(caught.exception.thing, name)
        self.assertEqual((self.book.names(), [self.book[one] for one in names]), (names, before))

    def test_what_is_neither_a_kind_nor_a_program(self):
        for thing in no_names() + [make_reader(), Book(), Kind, "box"]:
            if not isinstance(thing, (Kind, Program)):
                for name in ("box", "one", "new", "", None, []):
                    self.check(NoThing, name, thing)

    def test_names(self):
        for thing in no_names():
            self.check(NoName, thing, BOX)
            self.check(NoName, thing, make_program())
            self.assertIs(thing in self.book, False)
            for ask in (lambda: self.book[thing], lambda: self.book.verdict(thing)):
                with self.assertRaises(NoName) as caught:
                    ask()
                self.assertIs(caught.exception.thing, thing)
        for name in ("file", "one", "new", "boxes"):
            self.check(NoName, name, BOX)
        for name in ("lock", "two", "main"):
            with self.assertRaises(NoName) as caught:
                self.book[name]
            self.assertEqual(caught.exception.thing, name)

    def test_taken(self):
        self.check(Taken, "one", plain_kind("one"))
        self.check(Taken, "box", program_of(()))
        self.check(Taken, "box", make_program())
        self.check(Taken, "file", make_program())
        self.check(Taken, "two", Program([plain_kind("one")], [("main", (), ())]))
        self.check(Taken, "one", Program([BOX, plain_kind("one")], [("main", (), ())]))
        self.check(Taken, "new", Program([BOX, plain_kind("new")], [("main", (), ())]))
        # Neither is a kind of a refused program put.
        self.check(Taken, "two", Program([LOCK, plain_kind("one")], [("main", (), ())]))
        self.assertNotIn("lock", self.book)
        self.book["two"] = Program([LOCK, BOX], [("main", (), ())])
        self.check(Taken, "lock", make_program())
        self.check(Taken, "two", plain_kind("two"))

    def test_which_goes_ahead(self):
        self.check(NoThing, "", None)
        self.check(NoName, "file", plain_kind("one"))
        self.check(NoName, "one", BOX)
        self.check(NoName, "", Program([plain_kind("one")], [("main", (), ())]))

    def test_verdicts(self):
        for name in ("box", "file", "two"):
            with self.assertRaises(NoName) as caught:
                self.book.verdict(name)
            self.assertEqual(caught.exception.thing, name)

    def test_books_are_not_iterated_over(self):
        with self.assertRaises(TypeError):
            list(self.book)

    def test_what_is_told_may_be_changed(self):
        self.book.names().append(None)
        self.book.changes(BOX).append(None)
        self.assertEqual((self.book.names(), self.book.changes(BOX)), (["box", "file", "one"], []))


class Verdicts(unittest.TestCase):
    def test_changes(self):
        book = Book()
        book["lifts"] = Program([BOX], [("main", (), LIFTS)])
        book["bad"] = Program([BOX], [("main", (), LIFTS[:2])])
        book["none"] = program_of((), kinds=[PLAIN])
        self.assertEqual((book.verdict("lifts"), book.verdict("none")), (None, None))
        self.assertEqual(book.verdict("bad"), (3, (0, 2), ("dropped", "box", "ajar")))
        barred = Kind("box", "shut", ["shut"], {})
        never = Kind("box", "shut", ["shut"], {("shut", "lift"): []})
        ended = Kind("box", "shut", ["shut", "ajar"], BOX.moves())
        self.assertEqual(book.changes(barred), ["lifts"])
        self.assertEqual(book.changes(never), ["bad"])
        self.assertEqual(book.changes(ended), ["bad"])
        self.assertEqual(book.changes(BOX), [])
        self.assertEqual(book.changes(barred.renamed("other")), [])
        self.assertEqual(book.changes(PLAIN), [])
        # Nothing of this is put.
        self.assertEqual((book["box"], book["bad"].kinds()), (BOX, [BOX]))
        book["box"] = never
        self.assertEqual((book.verdict("bad"), book.changes(BOX)), (None, ["bad"]))

    def test_the_names_are_sorted(self):
        book = Book()
        for name in ("c", "a", "b", "aa"):
            book[name] = Program([BOX], [("main", (), LIFTS)])
        self.assertEqual(book.changes(Kind("box", "shut", [], {})), ["a", "aa", "b", "c"])

    def test_four_thousand_rows(self):
        for many in (4000, 4001):
            book = Book()
            book["great"] = wide_program(many)
            less = Kind("wide", WIDE.start, WIDE.ends, {(WIDE.start, "m"): []})
            if many == 4000:
                self.assertIsNone(book.verdict("great"))
                self.assertEqual(book.changes(WIDE), [])
                self.assertEqual(book.changes(less), [])
                continue
            for ask, given in ((book.verdict, "great"), (book.changes, WIDE), (book.changes, less)):
                with self.assertRaises(TooMany) as caught:
                    ask(given)
                self.assertEqual(caught.exception.many, 4000)
            self.assertEqual(book.changes(less.renamed("other")), [])
            book["wide"] = less
            self.assertIsNone(book.verdict("great"))
            with self.assertRaises(TooMany):
                book.changes(WIDE)

    def test_of_great_programs_with_another_kind(self):
        book = Book()
        book["great"] = program_of(wide_body(4001), kinds=[WIDE, BOX])
        self.assertRaises(TooMany, book.changes, BOX)
        self.assertEqual(book.changes(PLAIN), [])


class Drawn(unittest.TestCase):
    def test_as_the_document_tells(self):
        chance = random.Random(470)
        seen = {}
        for _ in range(60):
            book, model = Book(), Model()
            for _ in range(chance.randint(1, 12)):
                name = chance.choice(["k", "l", "p", "q", "r"])
                thing = draw_kind(chance, chance.choice(["k", "l", "k", "l", "p", name])) if chance.random() < 0.4 else draw_program(chance, 5)
                if chance.random() < 0.1:
                    thing = Program([draw_kind(chance, chance.choice("klpq"))], [("main", (), ())])
                if chance.random() < 0.5 and isinstance(thing, Kind):
                    name = thing.name
                if chance.random() < 0.1:
                    thing = chance.choice(no_rows() + rows())
                expected = model.put(name, thing)
                seen[expected] = seen.get(expected, 0) + 1
                if expected is None:
                    book[name] = thing
                else:
                    with self.assertRaises(RightError) as caught:
                        book[name] = thing
                    self.assertEqual(type(caught.exception).__name__, expected)
                self.check(chance, book, model)
        self.assertGreater(min(seen.values()), 15, seen)

    def check(self, chance, book, model):
        told = model.told()
        self.assertEqual((book.names(), len(book)), (sorted(told), len(told)))
        for name in "klpqr":
            self.assertIs(name in book, name in told)
            if name in told:
                self.assertEqual(book[name], told[name])
            if name in model.programs:
                self.assertEqual(book.verdict(name), steps_to_wrong(told[name]))
        kind = draw_kind(chance, chance.choice("klp"))
        self.assertEqual(book.changes(kind), model.changes(kind))

    def test_stand_ins_make_nothing_unsafe(self):
        chance = random.Random(471)
        seen = 0
        for _ in range(400):
            book = Book()
            for name in "pqr":
                book[name] = draw_program(chance, 6)
            kind = book["k"]
            moves = {key: row[:chance.randint(0, len(row))] for key, row in kind.moves().items()}
            other = Kind("k", kind.start, kind.states(), moves)
            self.assertIsNone(parted(kind, other))
            changed = book.changes(other)
            seen += len(changed)
            for name in changed:
                self.assertIsNotNone(book.verdict(name))
        self.assertGreater(seen, 10)


if __name__ == "__main__":
    unittest.main()
