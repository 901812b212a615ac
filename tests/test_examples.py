"""The examples of the document and of README.md, word for word."""

import doctest
import os
import unittest

SECTION_4 = '''
>>> from rightstate.kinds import Kind, after, allowed
>>> file = Kind("file", "new", ["new", "shut"], {("new", "open"): [("no", "open"), ("LOST", "new")], ("open", "read"): [("yes", "open"), ("no", "last")], ("open", "close"): [("no", "shut")], ("last", "close"): [("no", "shut")]})
>>> file["open", "read"], file["new", "read"], ("last", "close") in file, file.states()
((('no', 'last'), ('yes', 'open')), None, True, ['last', 'new', 'open', 'shut'])
>>> after(file, [("open", "no"), ("read", "no")]), allowed(file, [("open", "no")]), after(file, [("read", "yes")])
(['last'], ['close', 'read'], [])
'''

SECTION_5 = '''
>>> from rightstate.programs import Program
>>> main = ("main", (), (("new", "f", "file"), ("run", "g", "twice", ("f", "f")), ("with", "f", ())))
>>> twice = ("twice", ("a", "b"), (("maybe", (("call", "a", "open"),), ()), ("return", "b")))
>>> program = Program([file], [main, twice])
>>> program.variables("main"), program.variables("twice"), program.points()
(['f', 'g'], ['a', 'b'], [(0, 0), (0, 1), (0, 2), (0, 2, 1), (0, 3), (1, 0), (1, 0, 0, 0), (1, 1), (1, 2)])
'''

README = os.path.join(os.path.dirname(os.path.dirname(os.path.abspath(__file__))), "README.md")


class Examples(unittest.TestCase):
    def run_examples(self, text, name):
        test = doctest.DocTestParser().get_doctest(text, {}, name, name, 0)
        said = []
        result = doctest.DocTestRunner(verbose=False).run(test, out=said.append)
        self.assertGreater(result.attempted, 0)
        self.assertEqual(result.failed, 0, "".join(said))

    def test_document(self):
        self.run_examples(SECTION_4 + SECTION_5, "the document")

    def test_readme(self):
        with open(README, encoding="utf-8") as file:
            self.run_examples(file.read(), "README.md")


if __name__ == "__main__":
    unittest.main()
