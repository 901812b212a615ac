"""Section 5: which statement of a program is the first wrong one."""

import random
import unittest

from rightstate.errors import BadProgram
from rightstate.programs import Program
from samples import make_file, nested, no_errors, no_names, no_rows, plain_kind, rows

HELPERS = [("none", (), ()), ("one", ("a",), ()), ("three", ("a", "b", "c"), ())]
WAIT = ("wait",)


def make(body, params=(), name="f"):
    return Program([plain_kind("kind"), make_file()], [("main", (), ()), (name, params, body)] + HELPERS)


class Statements(unittest.TestCase):
    def check(self, place, body, params=()):
        """The program is wrong at this place behind that of its function."""
        with self.assertRaises(BadProgram) as caught:
            make(body, params)
        self.assertIs(type(caught.exception), BadProgram)
        self.assertEqual(caught.exception.place, (1,) + place)
        self.assertIs(type(caught.exception.place), tuple)

    def check_wrong(self, statement):
        """The statement is wrong, wherever it stands."""
        self.check((0,), (statement,))
        self.check((1,), [WAIT, statement, statement, 1])
        self.check((0, 0, 0), (("loop", (statement,)), statement))

    def check_parts(self, statement, at, wrong):
        """The statement is right, and wrong with any of the things in the place of its part."""
        make((statement,))
        make([list(statement)])
        make((("maybe", (WAIT,), (WAIT, statement)),))
        for thing in wrong:
            self.check_wrong(statement[:at] + (thing,) + statement[at + 1:])


class Forms(Statements):
    def test_no_statement(self):
        for thing in no_rows() + rows() + ["wait", "leave", ("Wait",), ("",), ("waits",), ("say", "yes"), ("if",),
                                           (None,), (WAIT,), ((WAIT,),), (b"wait",), ("wait", "wait"), (["wait"],)]:
            self.check_wrong(thing)

    def test_words(self):
        for word in no_names() + ["GUARD", "kind", "main", "Loop", "NONE"]:
            self.check_wrong((word,))
            self.check_wrong((word, "x"))
            self.check_wrong([word, "x", "kind"])

    def test_lengths(self):
        for statement in (("new", "x", "kind"), ("copy", "x", "y"), ("none", "x"), ("call", "x", "m"),
                          ("test", "x", "m", (), ()), ("same", "x", "y", (), ()), ("has", "x", (), ()),
                          ("maybe", (), ()), ("loop", ()), ("try", (), ()), ("with", "x", ()),
                          ("run", "x", "one", ("x",)), ("return", "x"), ("raise", "E"), ("wait",)):
            make((statement,))
            for many in range(len(statement)):
                if statement[:many] != WAIT:
                    self.check_wrong(statement[:many])
            for more in ((), "x", None, "E"):
                self.check_wrong(statement + (more,))
        for word in ("leave", "again"):
            make((("loop", ((word,),)),))
            self.check((0, 0, 0), (("loop", ((word, "x"),)),))
            self.check((0, 0, 0), (("loop", ((word, ()),)),))

    def test_new(self):
        self.check_parts(("new", "x", "kind"), 1, no_names())
        self.check_parts(("new", "x", "file"), 2, no_names() + ["x", "f", "main", "kinds", "fil"])

    def test_copy(self):
        self.check_parts(("copy", "x", "x"), 1, no_names())
        self.check_parts(("copy", "x", "y"), 2, no_names())

    def test_none(self):
        self.check_parts(("none", "x"), 1, no_names())

    def test_call(self):
        self.check_parts(("call", "x", "open"), 1, no_names())
        self.check_parts(("call", "x", "nobody"), 2, no_names())

    def test_test(self):
        self.check_parts(("test", "x", "open", (), ()), 1, no_names())
        self.check_parts(("test", "x", "nobody", (), ()), 2, no_names())
        self.check_parts(("test", "x", "open", (WAIT,), ()), 3, no_rows())
        self.check_parts(("test", "x", "open", [], [WAIT]), 4, no_rows())

    def test_same(self):
        self.check_parts(("same", "x", "x", (), ()), 1, no_names())
        self.check_parts(("same", "x", "y", (), ()), 2, no_names())
        self.check_parts(("same", "x", "y", (), ()), 3, no_rows())
        self.check_parts(("same", "x", "y", (), ()), 4, no_rows())

    def test_has(self):
        self.check_parts(("has", "x", (), ()), 1, no_names())
        self.check_parts(("has", "x", (), ()), 2, no_rows())
        self.check_parts(("has", "x", (), ()), 3, no_rows())

    def test_maybe(self):
        self.check_parts(("maybe", (), ()), 1, no_rows())
        self.check_parts(("maybe", (), ()), 2, no_rows())

    def test_loop(self):
        self.check_parts(("loop", ()), 1, no_rows())

    def test_with(self):
        self.check_parts(("with", "x", ()), 1, no_names())
        self.check_parts(("with", "x", ()), 2, no_rows())

    def test_return(self):
        self.check_parts(("return", "x"), 1, [thing for thing in no_names() if thing is not None])
        make((("return", None),))

    def test_raise(self):
        for error in ("E", "GUARD", "YES", "ABCDEFGH"):
            make((("raise", error),))
        self.check_parts(("raise", "E"), 1, no_errors() + ["yes", "no"])

    def test_try(self):
        handlers = ((("E", "F"), ()), ((), [WAIT]), (["GUARD", "E"], ()), ((), ()))
        make((("try", (), ()), ("try", [], list(handlers)), ["try", (WAIT,), handlers]))
        make((("try", (), [[list(errors), list(block)] for errors, block in handlers]),))
        self.check_parts(("try", (), handlers), 1, no_rows())
        self.check_parts(("try", (), handlers), 2, no_rows())
        wrong = no_rows() + [(), ((),), (("E",),), ((), (), ()), ("E", ()), [(("E",), ())]]
        wrong += [(errors, ()) for errors in no_rows()]
        wrong += [(("E",), block) for block in no_rows()]
        for error in no_errors() + ["yes", "no"]:
            wrong += [((error,), ()), (["E", error], ())]
        wrong += [(("E", "E"), ()), (["E", "F", "E"], (WAIT,))]
        for handler in wrong:
            self.check_wrong(("try", (), (handler,)))
            self.check_wrong(["try", [], [((), ()), handler]])
            self.check_wrong(("try", (1,), (handler, ((), ()))))

    def test_run(self):
        self.check_parts(("run", "x", "none", ()), 1, [thing for thing in no_names() if thing is not None])
        make((("run", None, "none", ()), ("run", None, "one", ["x"]), ("run", "x", "three", ("x", "y", "x"))))
        self.check_parts(("run", "x", "one", ("x",)), 2, no_names() + ["main", "kind", "x", "ones", "none", "three"])
        self.check_parts(("run", "x", "one", ("y",)), 3, no_rows() + [(), ("x", "y"), ["y", "y"], ("x", "y", "z")])
        self.check_parts(("run", "x", "none", ()), 3, no_rows() + [("x",)])
        self.check_parts(("run", None, "three", ("x", "y", "z")), 3, [(), ("x",), ("x", "y"), ("x",) * 4, ("x",) * 9999])
        for name in no_names():
            self.check_wrong(("run", None, "one", (name,)))
            self.check_wrong(("run", None, "three", ["x", name, "y"]))

    def test_run_itself_and_main(self):
        make((("run", None, "f", ("a",)),), ("a",))
        self.check((0,), (("run", None, "f", ()),), ("a",))
        self.check_wrong(("run", None, "main", ()))
        self.check_wrong(("run", "x", "main", ("x",)))
        with self.assertRaises(BadProgram) as caught:
            Program([make_file()], [("main", (), (WAIT, ("run", None, "main", ())))])
        self.assertEqual(caught.exception.place, (0, 1))

    def test_run_a_function_behind_it(self):
        functions = [("main", (), (("run", None, "later", ("x",)),)), ("later", ("a",), ())]
        self.assertEqual(Program([make_file()], functions).variables("main"), ["x"])


class Loops(Statements):
    def test_right(self):
        for word in ("leave", "again"):
            one = ((word,),)
            make((("loop", one),))
            make([["loop", [[word]]]])
            for statement in (("test", "x", "m", one, one), ("same", "x", "y", one, one), ("has", "x", one, one),
                              ("maybe", one, one), ("loop", one), ("try", one, ((("E",), one), ((), one))),
                              ("with", "x", one)):
                make((("loop", (statement,)),))
                make((("loop", (("maybe", (), (statement,)),)),))

    def test_wrong(self):
        for word in ("leave", "again"):
            one = ((word,),)
            self.check((0,), one)
            self.check((1,), (("loop", one), (word,)))
            self.check((1, 0, 0), (("loop", one), ("maybe", one, one)))
            for statement, blocks in ((("test", "x", "m", one, one), 2), (("same", "x", "y", one, one), 2),
                                      (("has", "x", one, one), 2), (("maybe", one, one), 2),
                                      (("try", one, ((("E",), one), ((), one))), 3), (("with", "x", one), 1)):
                for number in range(blocks):
                    self.check((0, 0, 0), (statement,))
            self.check((0, 1, 1), (("try", (), ((("E",), (WAIT, (word,))),)),))
            self.check((0, 2, 0), (("try", (("loop", one),), ((("E",), (("loop", one),)), ((), one))),))
            self.check((0, 1, 0), (("test", "x", "m", (("loop", one),), one),))


class Depth(Statements):
    WAYS = [
        (0, lambda block: ("test", "x", "m", block, ())),
        (1, lambda block: ("test", "x", "m", (), block)),
        (0, lambda block: ("same", "x", "y", block, ())),
        (1, lambda block: ("same", "x", "y", (), block)),
        (0, lambda block: ("has", "x", block, ())),
        (1, lambda block: ["has", "x", [], block]),
        (0, lambda block: ("maybe", block, ())),
        (1, lambda block: ("maybe", (), block)),
        (0, lambda block: ("loop", block)),
        (0, lambda block: ["try", block, []]),
        (1, lambda block: ("try", (), ((("E",), block),))),
        (2, lambda block: ("try", (), ((("E",), ()), ((), block)))),
    ]

    def build(self, ways, inner):
        """The statement inner within such blocks, and its place behind that of the function."""
        statement, place = inner, (0,)
        for number, way in ways[::-1]:
            statement = way((statement,))
            place = (0, number) + place
        return (statement,), place

    def test_each_way(self):
        for way in self.WAYS:
            for inner in (WAIT, ("loop", ()), ("with", "x", ()), ("try", (), (((), ()),)), ("maybe", [], [])):
                make(self.build([way] * 6, inner)[0])
                body, place = self.build([way] * 7, inner)
                self.check(place, body)

    def test_mixed_ways(self):
        chance = random.Random(6)
        for _ in range(200):
            ways = [chance.choice(self.WAYS) for _ in range(chance.randint(0, 20))]
            body, place = self.build(ways, WAIT)
            if len(ways) <= 6:
                make(body)
            else:
                self.check(place[:15], body)

    def test_the_seventh_block_may_be_there_if_it_is_empty(self):
        body, _ = self.build([self.WAYS[6]] * 6, ("maybe", (), ()))
        make(body)

    def test_in_one_branch_only(self):
        deep, place = self.build([self.WAYS[6]] * 6, WAIT)
        self.check((0, 1) + place, (("maybe", (WAIT,), deep), 1))
        self.check((1, 0) + place, (WAIT, ("loop", deep)))

    def test_a_hundred_deep(self):
        for way in self.WAYS:
            body, place = self.build([way] * 45, WAIT)
            self.check(place[:15], body)
        self.check((0,) * 15, self.build([self.WAYS[8]] * 100, WAIT)[0])

    def test_withs(self):
        def one(*block):
            return ("with", "x", block)
        make((one(one(WAIT)), one(), one(one(), WAIT, one())))
        make((one(("try", (("loop", (one(("has", "x", (WAIT,), ())),)),), ())),))
        self.check((0, 0, 0, 0, 0), (one(one(one())),))
        self.check((0, 0, 1, 0, 1), (one(WAIT, one(WAIT, one(WAIT, 1), 1)),))
        inner = ("try", (), ((("E",), (one(),)),))
        self.check((0, 0, 0, 0, 0, 0, 0, 1, 0), (one(("maybe", (one(inner),), ())),))
        self.check((0, 0, 0, 0, 0, 0, 0, 0, 0), (("loop", (one(("loop", (one(one()),)),),)),))


class Counts(Statements):
    def test_two_hundred_statements(self):
        make([WAIT] * 200)
        self.check((200,), [WAIT] * 201)
        self.check((200,), [WAIT] * 10000)
        self.check((200,), [WAIT] * 200 + [None])
        self.check((199,), [WAIT] * 199 + [None, None])

    def test_those_in_blocks_are_counted(self):
        inner = tuple([WAIT] * 66)
        three = ("try", inner, ((("E",), inner), ((), inner)))
        make((three, WAIT))
        self.check((2,), (three, WAIT, WAIT, WAIT))
        self.check((1, 0, 0), (three, ("maybe", (WAIT,), (WAIT,))))
        self.check((2, 1, 65), (WAIT, WAIT, ("maybe", inner + inner, inner)))
        self.check((0, 2, 65), (("try", inner, ((("E",), inner + (WAIT, WAIT)), ((), inner))), WAIT))

    def test_each_function_has_its_own(self):
        body = [WAIT] * 200
        program = Program([make_file()], [("main", (), body), ("f", (), body), ("g", (), body)])
        self.assertEqual(len(program.points()), 3 * 201)
        with self.assertRaises(BadProgram) as caught:
            Program([make_file()], [("main", (), body), ("f", (), body), ("g", (), body + [WAIT])])
        self.assertEqual(caught.exception.place, (2, 200))

    def test_five_variables(self):
        five = tuple([("none", name) for name in "abcde"])
        make(five)
        make(five + (("copy", "a", "e"), ("run", None, "three", ("c", "d", "e")), ("return", None)))
        for statement in (("new", "x", "kind"), ("copy", "x", "a"), ("copy", "a", "x"), ("none", "x"), ("call", "x", "m"),
                          ("test", "x", "m", (), ()), ("same", "x", "a", (), ()), ("same", "a", "x", (), ()),
                          ("has", "x", (), ()), ("with", "x", ()), ("run", "x", "none", ()), ("run", None, "one", ("x",)),
                          ("run", "a", "three", ("a", "b", "x")), ("return", "x")):
            make(five[:4] + (statement,))
            self.check((5,), five + (statement, 1))
            self.check((5, 1, 0), five + (("maybe", (WAIT,), (statement, 1)),))

    def test_several_at_once(self):
        self.check((4,), tuple([("none", name) for name in "abcd"]) + (("copy", "x", "y"),))
        make((("run", "a", "three", ("b", "c", "d")), ("none", "e")))
        self.check((1,), (("run", "a", "three", ("b", "c", "d")), ("same", "e", "f", (1,), ())))
        self.check((2,), (("copy", "a", "b"), ("copy", "c", "b"), ("run", "d", "three", ("e", "f", "a"))))

    def test_params_are_counted(self):
        make((("copy", "d", "e"), ("copy", "a", "b")), ("a", "b", "c"))
        self.check((1,), (("copy", "d", "e"), ("none", "f")), ("a", "b", "c"))
        self.check((0,), (("run", "d", "three", ("e", "f", "a")),), ("a", "b", "c"))

    def test_names_of_other_sorts_are_not_counted(self):
        make((("copy", "a", "b"), ("copy", "c", "d"), ("call", "e", "f"), ("call", "e", "g"), ("new", "e", "kind"),
              ("test", "e", "h", (), ()), ("run", None, "one", ("a",)), ("raise", "E")))


class First(Statements):
    def test_a_statement_ahead_of_its_blocks(self):
        self.check((0,), (("test", "x", "M", (1,), (1,)),))
        self.check((0,), (("try", (1,), (((), (1,)), ((1,), (1,)))),))
        self.check((0,), (("has", "x", (1,), None),))
        self.check((0, 0, 0), (("has", "x", (1,), (1,)), 1))

    def test_blocks_in_their_order(self):
        self.check((0, 0, 1), (("maybe", (WAIT, 1), (1,)), 1))
        self.check((0, 1, 0), (("maybe", (WAIT,), (1,)), 1))
        self.check((1,), (("maybe", (WAIT,), (WAIT,)), 1))
        self.check((0, 1, 0), (("try", (), ((("E",), (1,)), ((), (1,)))), 1))
        self.check((0, 2, 0), (("try", (), ((("E",), ()), ((), (1,)))), 1))

    def test_functions_in_their_order(self):
        for first, second, place in (((1,), (1,), (0, 0)), ((), (WAIT, 1), (1, 1)), ((WAIT,), (("leave",), 1), (1, 0))):
            with self.assertRaises(BadProgram) as caught:
                Program([make_file()], [("f", (), first), ("main", (), second)])
            self.assertEqual(caught.exception.place, place)


def random_block(chance, around, left, variables):
    """A right block as nested lists; left is a list with the number of statements that may still come."""
    block = []
    while left[0] > 0 and chance.random() < 0.75:
        left[0] -= 1
        block.append(random_statement(chance, around, left, variables))
    return block


def random_statement(chance, around, left, variables):
    x, y = chance.choice(variables), chance.choice(variables)
    simple = [["new", x, "kind"], ["copy", x, y], ["none", x], ["call", x, "m"], ["run", None, "one", [y]],
              ["run", x, "none", []], ["return", x], ["return", None], ["raise", "E"], ["wait"]]
    if "loop" in around:
        simple += [["leave"], ["again"]]
    word = chance.choice(["test", "same", "has", "maybe", "loop", "try", "with"])
    if len(around) == 6 or chance.random() < 0.4 or (word == "with" and around.count("with") == 2):
        return chance.choice(simple)

    def block():
        return random_block(chance, around + [word], left, variables)
    makers = {
        "test": lambda: [word, x, "m", block(), block()],
        "same": lambda: [word, x, y, block(), block()],
        "has": lambda: [word, x, block(), block()],
        "maybe": lambda: [word, block(), block()],
        "loop": lambda: [word, block()],
        "try": lambda: [word, block(), [[["E", "F"][:chance.randint(0, 2)], block()] for _ in range(chance.randint(0, 2))]],
        "with": lambda: [word, x, block()],
    }
    return makers[word]()


def seats(block, ahead):
    """All (place, block, index) of a nested block, as this test sees them."""
    found = []
    for at, statement in enumerate(block):
        place = ahead + (at,)
        found.append((place, block, at))
        if statement[0] == "try":
            inner = [statement[1]] + [handler[1] for handler in statement[2]]
        elif statement[0] == "run":
            inner = []
        else:
            inner = [part for part in statement[1:] if isinstance(part, list)]
        for number, one in enumerate(inner):
            found.extend(seats(one, place + (number,)))
    return found


class Randomly(Statements):
    """Right programs are taken; spoilt ones are wrong at the least place that was spoilt."""

    WRONG = [None, [], ["leaves"], ["none", "X"], ["new", "x", "lost"], ["run", None, "one", []], ["run", "x", "main", []],
             ["try", [], [[["E", "E"], []]]], ["maybe", []], ["raise", "no"], ["wait", None], True, "wait", ["none", None]]

    def test_spoilt(self):
        chance = random.Random(5)
        seen = 0
        for _ in range(400):
            variables = ["x", "y", "z", "v", "w"][:chance.randint(1, 5)]
            body = random_block(chance, [], [chance.choice([5, 30, 200])], variables)
            program = make(body)
            places = seats(body, (1,))
            points = [place for place, block, at in places if block[at][0] != "try"]
            points += [place + (1,) for place, block, at in places if block[at][0] == "with"] + [(1, len(body))]
            self.assertEqual([point for point in program.points() if point[0] == 1], sorted(points))
            if places:
                seen += 1
                chosen = [chance.choice(places) for _ in range(chance.randint(1, 3))]
                for _, block, at in chosen:
                    block[at] = chance.choice(self.WRONG)
                self.check(min([place for place, _, _ in chosen])[1:], body)
        self.assertGreater(seen, 200)


class Deep(Statements):
    def test_nested_parts(self):
        for build in (list, tuple):
            thing = nested(build, 100)
            for statement in ((thing,), ("new", thing, "kind"), ("new", "x", thing), ("call", "x", thing),
                              ("run", thing, "none", ()), ("run", None, thing, ()), ("run", None, "one", thing),
                              ("raise", thing), ("return", thing), ("try", (), thing), ("try", (), ((thing, ()),))):
                self.check_wrong(statement)
            self.check((0, 0, 0), (("loop", thing),))
            self.check((0, 1, 0), (("try", (), (((), thing),)),))


if __name__ == "__main__":
    unittest.main()
