"""The examples of the document and of README.md, word for word."""

import doctest
import os
import unittest

SECTION_4 = '''
>>> from rightstate.kinds import Kind, after, allowed
>>> file = Kind("file", "new", ["new", "shut"], {("new", "open"): [("no", "open"), ("LOST", "new")], ("open", "read"): [("yes", "open"), ("no", "last")], ("open", "close"): [("no", "shut")], ("last", "close"): [("no", "shut")]})
>>> file["open", "read"], file["new", "read"], ("last", "close") in file, file.states()
((('no', 'last'), ('yes', 'open')), None, True, ['last', 'new', 'open', 'shut'])
>>> after(file, [("open", "no"), ("read", "no")]), allowed(file, [("open", "no")]), after(file, [("read", "yes")])
(['last'], ['close', 'read'], [])
'''

SECTION_5 = '''
>>> from rightstate.programs import Program
>>> main = ("main", (), (("new", "f", "file"), ("run", "g", "twice", ("f", "f")), ("with", "f", ())))
>>> twice = ("twice", ("a", "b"), (("maybe", (("call", "a", "open"),), ()), ("return", "b")))
>>> program = Program([file], [main, twice])
>>> program.variables("main"), program.variables("twice"), program.points()
(['f', 'g'], ['a', 'b'], [(0, 0), (0, 1), (0, 2), (0, 2, 1), (0, 3), (1, 0), (1, 0, 0, 0), (1, 1), (1, 2)])
'''

SECTION_6 = '''
>>> from rightstate.walks import walk, runs
>>> walk(program, [1]).end(), walk(program, [0, 1]).end(), walk(program, []).end(), walk(program, [0, 1]).places()
(('wrong', (0, 2), ('barred', 'file', 'new', 'enter')), ('wrong', (0, 2), ('barred', 'file', 'open', 'enter')), ('open',), [(0, 0), (0, 1), (1, 0), (1, 0, 0, 0), (1, 1), (1, 2), (0, 1), (0, 2)])
>>> list(runs(program, 1))
[((0,), ('open',)), ((1,), ('wrong', (0, 2), ('barred', 'file', 'new', 'enter')))]
'''

SECTION_7 = '''
>>> from rightstate.tables import table
>>> found = table(program)
>>> found.entries()
[('main', ((), ())), ('twice', ((1, 1), (('file', 'new'),)))]
>>> found.exits("twice", ((1, 1), (("file", "new"),)))
[('LOST', ('new',), ('none',)), ('return', ('new',), ('old', 1)), ('return', ('open',), ('old', 1))]
>>> found.wrongs()
[((0, 2), ('barred', 'file', 'new', 'enter')), ((0, 2), ('barred', 'file', 'open', 'enter'))]
>>> found.rows()[1], len(found)
(('main', ((), ()), (0, 1), ((1, 0), (('file', 'new'),), ())), 14)
'''

SECTION_9 = '''
>>> from rightstate.papers import paper_fault
>>> from rightstate.shortest import run_to, steps_to_wrong, wrong_run
>>> steps_to_wrong(program), wrong_run(program)
((7, (0, 2), ('barred', 'file', 'new', 'enter')), (1,))
>>> run_to(program, ("main", ((), ()), (0, 3), ((1, 0), (("file", "new"),), ("raise", "LOST"))))
(5, (0, 0))
>>> begin = ("main", ((), ()), (0, 0), ((0, 0), (), ()))
>>> paper_fault(program, [], []), paper_fault(program, [begin], [])
(('begin',), ('step', 0, ('main', ((), ()), (0, 1), ((1, 0), (('file', 'new'),), ()))))
'''

SECTION_10 = '''
>>> from rightstate.questions import alike_at, idle, needs, reached, states_at
>>> reached(program)
[(0, 0), (0, 1), (0, 2), (0, 3), (1, 0), (1, 0, 0, 0), (1, 1), (1, 2)]
>>> states_at(program, (0, 2), "f"), states_at(program, (0, 1), "g"), alike_at(program, (0, 2), "g", "f")
([('file', 'new'), ('file', 'open')], [()], ['same'])
>>> idle(program, "file"), len(needs(program, "twice")), needs(program, "twice")[0]
([('last', 'close'), ('open', 'close'), ('open', 'read')], 6, ((1, 0), (('file', 'new'),)))
'''

SECTION_11 = '''
>>> from rightstate.guarding import guards_fault, least_guards, why_guarded
>>> least_guards(program), why_guarded(program)
([(0, 2), (0, 3)], {(0, 2): (1,), (0, 3): (0, 1)})
>>> guards_fault(program, [(0, 2)]), guards_fault(program, [(0, 3), (0, 1), (0, 2)]), guards_fault(program, [(0, 3), (0, 2)])
(('unsafe', (0, 3)), ('spare', (0, 1)), None)
'''

SECTION_12 = '''
>>> from rightstate.standins import common, pairing, parted, parting_program
>>> calm = Kind("file", "new", ["new", "shut"], {("new", "open"): [("no", "open")], ("open", "read"): [("yes", "open"), ("no", "last")], ("open", "close"): [("no", "shut")], ("last", "close"): [("no", "shut")]})
>>> parted(file, calm), parted(calm, file)
(None, ((), ('word', 'open', 'LOST')))
>>> pairing(file, calm)
[(('last',), ('last',)), (('new',), ('new',)), (('open',), ('open',)), (('shut',), ('shut',))]
>>> common(file, calm, "both")["a", "open"], common(file, calm, "both").ends
((('LOST', 'b'), ('no', 'c')), ('a', 'b', 'e', 'g'))
'''

SECTION_13 = '''
>>> from rightstate.built import Built, inferred, played, shapes
>>> begin = (("has", "f", (("say", "no"),), ()), ("new", "f", "file"), ("call", "f", "open"), ("say", "yes"))
>>> reader = Built("reader", [calm], ["f"], [("begin", begin), ("end", (("call", "f", "close"), ("none", "f")))])
>>> inferred(reader).moves()
{('a', 'begin'): (('yes', 'b'),), ('b', 'begin'): (('no', 'b'),), ('b', 'end'): (('no', 'a'),)}
>>> inferred(reader).ends, shapes(reader)
(('a',), {'a': ((0,), ()), 'b': ((1,), (('file', 'open'),))})
>>> played(reader, ["begin", "end", "end"], [])
([('begin', 'yes', ((1,), (('file', 'open'),))), ('end', 'no', ((0,), ()))], ('wrong', 2, (1, 0), ('nothing',)))
'''

SECTION_14 = '''
>>> from rightstate.live import Live, used
>>> live = Live(file, [1])
>>> live("open"), live.state, "open" in live, live.left
(False, 'open', False, 0)
>>> used(live, ["read", "close"]), live.told()[1:], live.held
([False, False], [('open', 'read', 'no', 'last'), ('last', 'close', 'no', 'shut')], False)
'''

SECTION_15 = '''
>>> from rightstate.texts import kind_text, program_text, read_program
>>> kind_text(calm).splitlines()
['kind file', 'start new', 'ends new shut', '  last close: no shut', '  new open: no open', '  open close: no shut', '  open read: no last, yes open']
>>> program_text(program).splitlines()[8:]
['  f = new file', '  g = twice(f, f)', '  with f', 'def twice(a, b)', '  maybe', '    a.open()', '  return b']
>>> read_program(program_text(program)) == program
True
'''

SECTION_16 = '''
>>> from rightstate.book import Book
>>> book = Book()
>>> book["twice"] = program
>>> book.names(), book.verdict("twice"), book.changes(calm), len(book)
(['file', 'twice'], (7, (0, 2), ('barred', 'file', 'new', 'enter')), [], 2)
'''

README = os.path.join(os.path.dirname(os.path.dirname(os.path.abspath(__file__))), "README.md")


class Examples(unittest.TestCase):
    def run_examples(self, text, name):
        test = doctest.DocTestParser().get_doctest(text, {}, name, name, 0)
        said = []
        result = doctest.DocTestRunner(verbose=False).run(test, out=said.append)
        self.assertGreater(result.attempted, 0)
        self.assertEqual(result.failed, 0, "".join(said))

    def test_document(self):
        sections = [SECTION_4, SECTION_5, SECTION_6, SECTION_7, SECTION_9, SECTION_10, SECTION_11, SECTION_12, SECTION_13,
                    SECTION_14, SECTION_15, SECTION_16]
        self.run_examples("".join(sections), "the document")

    def test_readme(self):
        with open(README, encoding="utf-8") as file:
            self.run_examples(file.read(), "README.md")


if __name__ == "__main__":
    unittest.main()
