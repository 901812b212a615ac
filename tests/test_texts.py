"""Section 15: texts of kinds and of programs."""

import random
import unittest

import grammar
from drawn import draw_all, draw_kind
from rightstate.errors import BadProgram, NoText
from rightstate.kinds import Kind
from rightstate.programs import Program
from rightstate.texts import kind_text, program_text, read_kind, read_program
from samples import make_file, make_program, no_texts, plain_kind, rows
from test_statements import random_block
from things import BOX, KINDS, LOCK, PLAIN, call, new

FILE_TEXT = """kind file
start new
ends new shut
  last close: no shut
  new open: LOST new, no open
  open close: no shut
  open read: no last, yes open
"""
PLAIN_TEXT = "kind plain\nstart s\nends s\n"
ALL = (("new", "x", "plain"), ("copy", "x", "y"), ("none", "x"), ("call", "x", "m"),
       ("test", "x", "m", (("wait",),), ()), ("test", "x", "m", (), (("wait",),)), ("same", "x", "y", (("wait",),), (("wait",),)),
       ("has", "x", (), ()), ("maybe", (("wait",),), ()), ("maybe", (), (("wait",),)), ("maybe", (), ()),
       ("loop", (("leave",), ("again",), ("loop", ()))),
       ("try", (("wait",),), ()), ("try", (), (((), ()), (("E",), (("wait",),)), (("F", "E"), ()))),
       ("with", "x", (("with", "x", ()), ("wait",))), ("run", "x", "f", ("x", "y")), ("run", None, "f", ("x", "x")),
       ("run", None, "g", ()), ("run", "x", "g", ()), ("return", "x"), ("return", None), ("raise", "LOST"))
ALL_LINES = """def main()
  x = new plain
  x = y
  x = None
  x.m()
  if x.m()
    wait
  if x.m()
  else
    wait
  if x is y
    wait
  else
    wait
  if x
  maybe
    wait
  maybe
  or
    wait
  maybe
  loop
    leave
    again
    loop
  try
    wait
  try
  except
  except E
    wait
  except F E
  with x
    with x
    wait
  x = f(x, y)
  f(x, x)
  g()
  x = g()
  return x
  return
  raise LOST
def f(a, b)
def g()
"""
# Names that are words of such texts.
WORDS = ["new", "is", "if", "else", "or", "maybe", "loop", "try", "except", "with", "leave", "again", "wait", "return", "raise",
         "def", "kind", "start", "ends", "main", "yes", "no", "enter", "exit"]


def program_with(*body, kinds=(PLAIN,)):
    return Program(kinds, [("main", (), body), ("f", ("a", "b"), ()), ("g", (), ())])


class Written(unittest.TestCase):
    def test_kinds(self):
        self.assertEqual(kind_text(make_file()), FILE_TEXT)
        self.assertEqual(kind_text(PLAIN), PLAIN_TEXT)
        self.assertEqual(kind_text(Kind("k", "s", [], {("s", "m"): [], ("a", "m"): [("yes", "s")]})),
                         "kind k\nstart s\nends\n  a m: yes s\n  s m:\n")
        self.assertEqual(kind_text(Kind("k", "t", ["u", "t", "s"], {("t", "m"): [("yes", "t"), ("no", "t"), ("E", "u"), ("E", "s")]})),
                         "kind k\nstart t\nends s t u\n  t m: E s, E u, no t, yes t\n")

    def test_the_program_of_the_document(self):
        text = program_text(make_program())
        self.assertTrue(text.startswith(FILE_TEXT + "def main()\n  f = new file\n"))
        self.assertEqual(read_program(text), make_program())
        self.assertEqual(text.splitlines()[8:], ["  f = new file", "  g = twice(f, f)", "  with f", "def twice(a, b)", "  maybe", "    a.open()", "  return b"])

    def test_all_statements(self):
        self.assertEqual(program_text(program_with(*ALL)), PLAIN_TEXT + ALL_LINES)
        self.assertEqual(read_program(PLAIN_TEXT + ALL_LINES), program_with(*ALL))

    def test_several_kinds(self):
        program = program_with(kinds=[BOX, PLAIN, LOCK])
        self.assertEqual(program_text(program), kind_text(BOX) + PLAIN_TEXT + kind_text(LOCK) + "def main()\ndef f(a, b)\ndef g()\n")
        self.assertEqual(read_program(program_text(program)), program)

    def test_blocks_in_blocks(self):
        block = (("wait",),)
        for _ in range(6):
            block = (("has", "x", (), block), ("try", (("wait",),), ((("E",), (("wait",),)),)))
            program = program_with(*block)
            self.assertEqual(read_program(program_text(program)), program)
        deepest = max(len(line) - len(line.lstrip(" ")) for line in program_text(program).splitlines())
        self.assertEqual(deepest, 14)

    def test_names_that_are_words(self):
        for word in WORDS:
            kind = Kind(word, word, [word], {(word, word): [("yes", word), ("no", word)]})
            self.assertEqual(read_kind(kind_text(kind)), kind)
            for other in WORDS:
                body = (("new", other, word), ("copy", other, word), ("none", other), ("call", other, word), ("has", other, (), ()),
                        ("test", word, other, (), (("wait",),)), ("same", other, word, (), ()), ("with", word, ()), ("return", other))
                body += (("run", other, word, ()), ("run", None, word, ())) if word != "main" else ()
                functions = [("main", (), body)] + ([(word, (), ())] if word != "main" else [])
                program = Program([kind], functions)
                self.assertEqual(read_program(program_text(program)), program)

    def test_long_names(self):
        kind = Kind("a" * 8, "b" * 8, [], {("c" * 8, "d" * 8): [("E" * 8, "f" * 8)]})
        self.assertEqual(read_kind(kind_text(kind)), kind)
        text = kind_text(kind)
        for letter, line in (("a", 1), ("b", 2), ("c", 4), ("d", 4), ("E", 4), ("f", 4)):
            self.check_kind(line, text.replace(letter * 8, letter * 9))

    def check_kind(self, line, text):
        with self.assertRaises(NoText) as caught:
            read_kind(text)
        self.assertEqual(caught.exception.line, line)


class Read(unittest.TestCase):
    def check(self, line, text, read=read_kind):
        with self.assertRaises(NoText) as caught:
            read(text)
        self.assertEqual(caught.exception.line, line)
        self.assertEqual((grammar.read_kind if read == read_kind else grammar.read_program)(text), line)

    def check_program(self, line, text):
        self.check(line, text, read_program)

    def check_body(self, line, *lines):
        """The number of the wrong line of a body is counted from its def line."""
        body = "def main()\n" + "".join(one + "\n" for one in lines)
        self.check_program(line + 4, PLAIN_TEXT + body)
        self.check_program(line + 4 + 3, PLAIN_TEXT + "def a(b)\n  loop\n    b = None\n" + body)

    def right(self, *lines):
        text = PLAIN_TEXT + PLAIN_TEXT.replace("plain", "new") + "def main()\n" + "".join(one + "\n" for one in lines)
        text += "def f(a, b)\ndef if(a, b)\ndef leave()\n"
        kinds, functions = grammar.read_program(text)
        self.assertEqual(read_program(text).functions(), functions)
        return functions[0][2]

    def test_no_strings(self):
        for thing in no_texts() + rows() + [b"kind file\n", ["kind file\n"]]:
            for read in (read_kind, read_program):
                with self.assertRaises(NoText) as caught:
                    read(thing)
                self.assertEqual(caught.exception.line, 0)

    def test_any_order(self):
        text = "kind file\nstart new\nends shut new\n  open read: yes open, no last\n  new open: no open, LOST new\n"
        text += "  open close: no shut\n  last close: no shut\n"
        self.assertEqual(read_kind(text), make_file())
        self.assertEqual(read_program(text + "def main()\n"), Program([make_file()], [("main", (), ())]))

    def test_empty_blocks_behind_else_and_or(self):
        self.assertEqual(self.right("  if x", "  else", "  if x.m()", "    wait", "  else", "  maybe", "  or"),
                         (("has", "x", (), ()), ("test", "x", "m", (("wait",),), ()), ("maybe", (), ())))
        self.assertEqual(self.right("  maybe", "    if x is y", "    else", "  or", "    if x", "    else", "      wait"),
                         (("maybe", (("same", "x", "y", (), ()),), (("has", "x", (), (("wait",),)),)),))

    def test_cut_off(self):
        for text, read in ((FILE_TEXT, read_kind), (PLAIN_TEXT + ALL_LINES, read_program), (FILE_TEXT + PLAIN_TEXT + ALL_LINES, read_program)):
            for end in range(len(text)):
                ahead = text[:end].split("\n")
                # A text that ends behind a whole line is right from the third line of a kind on.
                started = [line for line in ahead[:-1] if line.startswith("kind")][-1:]
                whole = ahead[-1] == "" and started and len(ahead) - 1 - ahead.index(started[0]) >= 3
                if not whole:
                    self.check(len(ahead), text[:end], read)
        self.check_program(1, "")
        self.check(1, "")
        self.check(1, "\n")
        self.check(4, PLAIN_TEXT + "\n")

    def test_lines_of_kinds(self):
        for number, lines in ((1, ["kind", "kind ", "Kind file", "kind File", "kind file ", " kind file", "kind  file", "kind file file", "",
                                   "kind\tfile", "start new", "def main()", "kind f1", "kind filefilef", "kindfile", "kind file:"]),
                              (2, ["start", "start ", "start new ", "ends new", "start new new", "start NEW", "", "  start new", "kind file"]),
                              (3, ["end", "ends ", "ends new ", "ends new  shut", "ends new new", "ends shut new shut", "ends New", "start new",
                                   "ends, new", "ends new, shut", "", "  last close: no shut", "ends 1"]),
                              (4, ["last close: no shut", " last close: no shut", "   last close: no shut", "    last close: no shut",
                                   "  last close", "  last close no shut", "  last close : no shut", "  last: no shut", "  last close:no shut",
                                   "  last close:  no shut", "  last close: ", "  last close: no", "  last close: no shut,", "  last close: no shut ",
                                   "  last close: no shut,yes new", "  last close: no shut , yes new", "  last close: no shut,  yes new",
                                   "  last close: No shut", "  last close: maybe shut", "  last close: no SHUT", "  last  close: no shut",
                                   "  last close: no shut, no shut", "  last close: yes new, no shut, yes new", "  last close:: no shut",
                                   "  last close: no: shut", "\tlast close: no shut", "  last close: no shut;", "", "  ", "kind file", "ends new shut"]),
                              (5, ["  last close: no shut", "  last close:", "  last close: LOST shut, yes new"])):
            for line in lines:
                ahead = FILE_TEXT.splitlines()[:number - 1]
                for behind in ([], FILE_TEXT.splitlines()[number:]):
                    self.check(number, "".join(one + "\n" for one in ahead + [line] + behind))
                    self.check_program(number, "".join(one + "\n" for one in ahead + [line] + behind + ["def main()"]))
        self.check(8, FILE_TEXT + "def main()\n")
        self.check(8, FILE_TEXT + FILE_TEXT)

    def test_bounds_of_kinds(self):
        words = ["yes", "no", "A", "B", "C", "D", "E", "F", "G"]
        for many in (8, 9):
            row = ", ".join(word + " s" for word in words[:many])
            text = "kind k\nstart s\nends\n  s a:\n  s m: " + row + "\n  s n: yes s\n"
            methods = "kind k\nstart s\nends\n" + "".join(f"  {state} m{letter}:\n" for letter in "abcdefghi"[:many] for state in "st")
            if many == 8:
                self.assertEqual(len(read_kind(text)["s", "m"]), 8)
                self.assertEqual(len(read_kind(methods).methods()), 8)
            else:
                self.check(5, text)
                self.check(20, methods)
        states = [a + b for a in "abcdef" for b in "abcdefghijkl"]
        for many in (60, 61):
            ends = "kind k\nstart aa\nends " + " ".join(states[1:many]) + "\n  aa m: yes aa\n"
            moves = "kind k\nstart aa\nends ab\n" + "".join(f"  aa m{letter}: " + ", ".join(f"yes {state}" for state in states[at:at + 8]) + "\n"
                                                        for letter, at in zip("abcdefgh", range(0, many - 5, 8)))
            froms = "kind k\nstart aa\nends\n" + "".join(f"  {state} m:\n" for state in states[:many])
            if many == 60:
                for text in (ends, froms):
                    self.assertEqual(len(read_kind(text).states()), 60)
                self.assertEqual(len(read_kind(moves).states()), 56)
            else:
                self.check(3, ends)
                self.check(64, froms)
                self.check_program(64 + 3, PLAIN_TEXT + froms)
        self.check(4 + 7, "kind k\nstart aa\nends\n" + "".join(f"  aa m{letter}: " + ", ".join(f"yes {state}" for state in states[at:at + 8]) + "\n"
                                                            for letter, at in zip("abcdefgh", range(0, 64, 8))))

    def test_kinds_of_programs(self):
        kinds = [kind_text(plain_kind(name)) for name in "abcde"]
        self.assertEqual(len(read_program("".join(kinds[:4]) + "def main()\n").kinds()), 4)
        self.check_program(13, "".join(kinds) + "def main()\n")
        self.check_program(7, kinds[0] + kinds[1] + kinds[0] + "def main()\n")
        self.check_program(4, kinds[0] + kinds[0])
        self.check_program(5, kinds[0] + "kind b\n")
        self.check_program(1, "def main()\n" + kinds[0])
        self.check_program(5, kinds[0] + "def main()\n" + kinds[1])
        self.check_program(1, "start a\n")

    def test_lines_of_functions(self):
        wrong = ("def", "def ", "def main", "def main(a", "def main(a, b", "def main(a, b,", "fed main()", "def main(", "def main)", "def main():", "def main() ", "def  main()", " def main()", "def main ()",
                     "def Main()", "def main(a,b)", "def main(a, )", "def main( a)", "def main(a b)", "def main(, a)", "def main(A)",
                     "def main((a))", "def main(a)(b)", "def ()", "def mainmainm()", "", "main()", "start s", "wait")
        for line in wrong:
            self.check_program(4, PLAIN_TEXT + line + "\n  wait\n")
            self.check_program(5, PLAIN_TEXT + "def a(b, c)\n" + line + "\n  wait\n")
        self.check_program(4, PLAIN_TEXT + "  x = y\n")

    def test_lines_of_statements(self):
        for line in ("x", "x = ", "x =", "x = 1", "x=y", "x  = y", "x = y ", "x = y z", "x = NONE", "x = new K", "x = new k l", "x = new k()", "X = y", "x == y", "= y", "x.m", "x.m(", "x.m(y)", "x.m()()", "x.m() ", "x .m()", "x.()",
                     ".m()", "x.m.n()", "x.M()", "y = x.m()", "if", "if ", "if x.m", "if x.m(y)", "if x is", "if x is  y", "if x is None", "if x is not y",
                     "if x y", "if x:", "if x == y", "else", "or", "except", "except E", "maybe ", "maybe x", "Maybe", "loop x", "loop:", "leave x",
                     "leave()x", "again x", "try x", "with", "with ", "with x as y", "with X", "with x:", "wait x", "return ", "return None", "return x y", "return X",
                     "return x()", "raise", "raise e", "raise E F", "raise Ee", "raise E ", "f(", "f)", "f(a", "f(a,b)", "f(a, b,)", "f(a b)", "f (a)", "f(A)",
                     "f(a)(b)", "x = f(a", "x = f a", "X = f(a)", "x y = f(a)", "x = = f(a)", "None = f(a)", "x = None()", "None", "def f()", "kind k", "say yes",
                     "x = new y z", "", "pass", "x\t= y", "f(f(a))", "if f(a)", "of x is y", "x is y", "if X is y", "if x is Y", "F(a)", "1()", "()", "of x.m()", "if y x.m()", "x x.m()", "y x = f(a)",
                     "X = new k", "of x = y", "return f(a)", "x.f(a)", "f()x", "abcdefghi = x", "x = abcdefghi"):
            self.check_body(1, "  " + line)
            self.check_body(3, "  if x", "    wait", "    " + line)
            self.check_body(2, "  loop", "    " + line, "  nothing at all")
        for line in ("x = none", "x = new", "new = x", "if if", "if is is is", "new = new new", "leave()", "if.if()", "if if.if()", "if = if(if, if)"):
            self.assertEqual(len(self.right("  " + line)), 1)

    def test_depths(self):
        for line, ahead in (("wait", []), (" wait", []), ("   wait", []), ("    wait", []), ("     wait", []), ("\twait", []),
                            ("    wait", ["  wait"]), ("      wait", ["  loop"]), ("    wait", ["  loop", "    wait", "  wait"]),
                            ("   wait", ["  loop"]), ("        wait", ["  loop", "    loop"]), ("    wait", ["  x = y"]), ("    wait", ["  f(a, b)"])):
            self.check_body(len(ahead) + 1, *ahead, line)
        self.right("  loop", "    loop", "      loop", "  wait", "  loop", "    wait", "  wait")

    def test_else_or_except(self):
        for lines in (["  else"], ["  or"], ["  except"], ["  except E"], ["  loop", "  else"], ["  maybe", "  else"], ["  if x", "  or"], ["  if x", "  except"],
                      ["  try", "  else"], ["  with x", "  else"], ["  loop", "    wait", "  or"], ["  if x", "  else", "  else"],
                      ["  maybe", "  or", "    wait", "  or"], ["  if x", "    wait", "  wait", "  else"], ["  if x", "    else"], ["  try", "    except"],
                      ["  if x", "    wait", "  else x"], ["  if x", "  else:"], ["  try", "  except e"], ["  try", "  except E, F"], ["  try", "  except E E"],
                      ["  try", "  except E F E"], ["  try", "  except E", "  except F F"], ["  try", "  except  E"], ["  try", "  except E "], ["  try", "  wait", "  except"],
                      ["  if x", "    if y", "  else", "    wait", "    else"], ["  try", "  except E", "    wait", "  wait", "  except F"], ["  if x", "   else"],
                      ["  loop", "    if x", "  else"], ["  try", "    maybe", "  or"], ["  maybe", "    try", "  except"]):
            self.check_body(len(lines), *lines)
        self.right("  try", "  except", "  except", "  except E", "  except E F", "    try", "    except E")
        self.right("  if x", "    if y", "    else", "  else", "    maybe", "    or", "      wait")
        self.right("  except = None", "  else = or", "  or = f(else, or)")

    def test_texts_that_programs_refuse(self):
        head = PLAIN_TEXT
        for text, place in ((head, ()), (head + "def f()\n", ()), (head + "def main(a)\n", ()), (head + "def main()\ndef f(a, a)\n", (1,)),
                            (head + "def main()\ndef main()\n", (1,)), (head + "def main()\ndef f(a, b, c, d)\n", (1,)),
                            (head + "def main()\n  x = new box\n", (0, 0)), (head + "def main()\n  wait\n  f(a)\n", (0, 1)),
                            (head + "def main()\n  wait\n  main()\n", (0, 1)), (head + "def main()\n  loop\n    leave\n  if x\n  else\n    leave\n", (0, 1, 1, 0)),
                            (head + "def main()\n" + "  wait\n" * 201, (0, 200)), (head + "def main()\n" + "".join(f"  {x} = None\n" for x in "abcdef"), (0, 5)),
                            (head + "def main()\n  with a\n    with a\n      with a\n", (0, 0, 0, 0, 0, 0)[:6]), (head + "".join(f"def {x}()\n" for x in "abcdefg"), ()),
                            (head + "def main()\n" + "".join("  " * deep + "loop\n" for deep in range(1, 9)), (0, 0) + (0, 0) * 7),
                            (head + "def main()\n" + "".join("  " * deep + "loop\n" for deep in range(1, 150)), (0, 0) + (0, 0) * 7)):
            with self.assertRaises(BadProgram) as caught:
                read_program(text)
            self.assertEqual(caught.exception.place, place)
            kinds, functions = grammar.read_program(text)
            with self.assertRaises(BadProgram) as caught:
                Program([Kind(*kind) for kind in kinds], functions)
            self.assertEqual(caught.exception.place, place)

    def test_a_wrong_line_comes_ahead_of_what_programs_refuse(self):
        self.check_program(6, PLAIN_TEXT + "def f(a, a)\n  leave\n  nothing\n")
        self.check_program(6, PLAIN_TEXT + "def f(a, a)\n  leave\n  wait")


class Drawn(unittest.TestCase):
    def test_kinds(self):
        chance = random.Random(460)
        for _ in range(300):
            kind = draw_kind(chance, chance.choice(WORDS), 4)
            text = kind_text(kind)
            self.assertEqual(read_kind(text), kind)
            self.assertEqual(Kind(*grammar.read_kind(text)), kind)
            head, moves = text.splitlines()[:3], text.splitlines()[3:]
            chance.shuffle(moves)
            moves = [self.shuffled(chance, line) for line in moves]
            ends = ["ends"] + chance.sample(kind.ends, len(kind.ends))
            self.assertEqual(read_kind("\n".join(head[:2] + [" ".join(ends)] + moves) + "\n"), kind)

    def shuffled(self, chance, line):
        first, rest = line.split(":")
        parts = rest[1:].split(", ") if rest else []
        chance.shuffle(parts)
        return first + ":" + (" " + ", ".join(parts) if parts else "")

    def test_programs(self):
        for _, program, _ in draw_all(461, 300, sizes=(5, 15, 40)):
            text = program_text(program)
            self.assertEqual(read_program(text), program)
            kinds, functions = grammar.read_program(text)
            self.assertEqual(Program([Kind(*kind) for kind in kinds], functions), program)

    def test_great_programs(self):
        chance = random.Random(462)
        for _ in range(40):
            body = random_block(chance, [], [150], ["x", "y", "z", "v", "w"])
            others = [("one", ["a"], [["return", "a"]]), ("none", [], [["new", "x", "kind"], ["return", "x"]])]
            program = Program([KINDS[1].renamed("kind")], [("main", [], body)] + others)
            self.assertEqual(read_program(program_text(program)), program)

    def test_spoilt(self):
        seen = {"wrong": 0, "right": 0, "bad": 0}
        for chance, program, _ in draw_all(463, 2000, sizes=(5, 12)):
            text = self.spoilt(chance, program_text(program))
            expected = grammar.read_program(text)
            if isinstance(expected, int):
                seen["wrong"] += 1
                with self.assertRaises(NoText, msg=text) as caught:
                    read_program(text)
                self.assertEqual(caught.exception.line, expected, text)
                continue
            try:
                made = Program([Kind(*kind) for kind in expected[0]], expected[1])
            except BadProgram as error:
                seen["bad"] += 1
                with self.assertRaises(BadProgram) as caught:
                    read_program(text)
                self.assertEqual(caught.exception.place, error.place)
            else:
                seen["right"] += 1
                self.assertEqual(read_program(text), made)
        self.assertGreater(min(seen.values()), 10, seen)

    def test_spoilt_kinds(self):
        chance = random.Random(464)
        wrong = 0
        for _ in range(700):
            text = self.spoilt(chance, kind_text(draw_kind(chance, "k", 4)))
            expected = grammar.read_kind(text)
            if isinstance(expected, int):
                wrong += 1
                with self.assertRaises(NoText) as caught:
                    read_kind(text)
                self.assertEqual(caught.exception.line, expected, text)
            else:
                self.assertEqual(read_kind(text), Kind(*expected))
        self.assertGreater(wrong, 300)

    def spoilt(self, chance, text):
        for _ in range(chance.choice([1, 1, 2])):
            lines = text.split("\n")
            at, other = chance.randrange(len(lines)), chance.randrange(len(lines))
            what = chance.choice(["drop", "twice", "swap", "deep", "flat", "sign", "cut", "word", "empty", "move"])
            if what == "drop":
                del lines[at]
            elif what == "twice":
                lines.insert(other, lines[at])
            elif what == "swap":
                lines[at], lines[other] = lines[other], lines[at]
            elif what == "deep":
                lines[at] = "  " + lines[at]
            elif what == "flat":
                lines[at] = lines[at][2:]
            elif what == "empty":
                lines.insert(at, "")
            elif what == "move":
                lines.insert(other, lines.pop(at))
            elif what == "word":
                words = lines[at].split(" ")
                words[chance.randrange(len(words))] = chance.choice(["else", "or", "except", "x", "loop", "E", "", "=", "new", "None", "f(x)", "try"])
                lines[at] = " ".join(words)
            text = "\n".join(lines)
            if what == "sign" and text:
                place = chance.randrange(len(text))
                text = text[:place] + chance.choice(" \t\n.,:()=aZ1~") + text[place + chance.randint(0, 1):]
            if what == "cut":
                text = text[:chance.randrange(len(text) + 1)]
        return text

    def test_what_is_read_is_not_changed(self):
        program = make_program()
        before = program.functions()
        program_text(program)
        self.assertEqual(program.functions(), before)
        self.assertEqual((call("x", "m"), new("x")), (("call", "x", "m"), ("new", "x", "plain")))


if __name__ == "__main__":
    unittest.main()
