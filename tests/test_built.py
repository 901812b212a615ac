"""Section 13: classes built of other objects, their kinds, and calls of them."""

import random
import unittest

from drawn import draw_kind
from drawn_classes import draw_class, draw_classes
from methods import Object, answers_of, infer, play
from rightstate.built import Built, inferred, played, shapes
from rightstate.errors import BadBuilt, BadChoices, NoMethod, NoNumber, TooMany
from rightstate.kinds import Kind, after
from rightstate.programs import Program
from rightstate.standins import parted
from samples import (make_file, make_program, nested, no_choices, no_errors, no_names, no_numbers, no_rows,
                     plain_kind, rows)
from things import BOX, KINDS, LOCK, WIDE, call, new, wide_body

CALM = Kind("file", "new", ["new", "shut"], {
    ("new", "open"): [("no", "open")], ("open", "read"): [("yes", "open"), ("no", "last")],
    ("open", "close"): [("no", "shut")], ("last", "close"): [("no", "shut")]})
BEGIN = (("has", "f", (("say", "no"),), ()), new("f", "file"), call("f", "open"), ("say", "yes"))
END = (call("f", "close"), ("none", "f"))
NONE, OPEN = ((0,), ()), ((1,), (("file", "open"),))
SAY = ("say", "yes")


def make_reader():
    return Built("reader", [CALM], ["f"], [("begin", BEGIN), ("end", END)])


def one_method(*body, fields=("f",), kinds=KINDS):
    return Built("c", kinds, fields, [("m", body)])


class Written(unittest.TestCase):
    def test_the_example_of_the_document(self):
        reader = make_reader()
        self.assertEqual(inferred(reader), Kind("reader", "a", ["a"], {
            ("a", "begin"): [("yes", "b")], ("b", "begin"): [("no", "b")], ("b", "end"): [("no", "a")]}))
        self.assertEqual(shapes(reader), {"a": NONE, "b": OPEN})
        self.assertEqual(played(reader, ["begin", "end", "end"], []),
                         ([("begin", "yes", OPEN), ("end", "no", NONE)], ("wrong", 2, (1, 0), ("nothing",))))

    def test_parts(self):
        reader = make_reader()
        self.assertEqual((reader.name, reader.kinds(), reader.fields()), ("reader", [CALM], ["f"]))
        self.assertEqual(reader.methods(), [("begin", BEGIN), ("end", END)])
        for ask in (reader.kinds, reader.fields, reader.methods):
            ask().append(None)
            self.assertNotIn(None, ask())
        with self.assertRaises(AttributeError):
            reader.name = "other"

    def test_lists_become_tuples_and_may_be_changed_behind(self):
        block, kinds, fields = [["say", "yes"]], [CALM], ["f"]
        method = ["begin", [["has", "f", block, []], ["try", block, [[["E"], block]]]]]
        methods = [method]
        built = Built("c", kinds, fields, methods)
        say = (SAY,)
        expected = [("begin", (("has", "f", say, ()), ("try", say, ((("E",), say),))))]
        for thing in (block, kinds, fields, method, methods):
            thing.clear()
        self.assertEqual((built.methods(), built.kinds(), built.fields()), (expected, [CALM], ["f"]))
        self.assertEqual(played(built, ["begin"], [])[1], ("ended",))

    def test_equality(self):
        reader = make_reader()
        same = Built("reader", (CALM,), ("f",), [["begin", list(map(list, BEGIN))], ["end", END]])
        self.assertTrue(reader == same and not reader != same)
        others = [Built("other", [CALM], ["f"], reader.methods()), Built("reader", [make_file()], ["f"], reader.methods()),
                  Built("reader", [CALM], ["f", "g"], reader.methods()), Built("reader", [CALM], ["f"], reader.methods()[::-1]),
                  Built("reader", [CALM, plain_kind("k")], ["f"], reader.methods()), Built("reader", [CALM], ["f"], reader.methods()[:1])]
        for other in others + no_names() + [inferred(reader), make_program(), CALM]:
            self.assertFalse(reader == other)
            self.assertTrue(reader != other)

    def test_answers(self):
        for body, answers in (((), "no"), ((SAY,), "yes"), ((("say", "no"), SAY), "no"), ((("raise", "LOST"), SAY), "LOST"),
                              ((("try", (("raise", "E"),), ((("E",), (SAY,)),)),), "yes"),
                              ((("loop", (SAY,)), ("raise", "E")), None), ((("try", (SAY,), (((), (("say", "no"),)),)),), "yes")):
            found = played(one_method(*body), ["m"], [1])
            if answers is not None:
                self.assertEqual(found, ([("m", answers, NONE)], ("ended",)))
        self.assertEqual(inferred(one_method(("loop", (SAY,)), ("raise", "E")))["a", "m"], (("E", "a"), ("yes", "a")))

    def test_say_goes_out_through_exits(self):
        body = (new("x", "lock"), ("with", "x", (("loop", (SAY,)), ("wait",))))
        self.assertEqual(inferred(one_method(*body))["a", "m"], (("yes", "a"),))
        jam = (new("x", "lock"), ("with", "x", (call("x", "jam"), SAY)))
        self.assertEqual(inferred(one_method(*jam)).moves(), {("a", "m"): (("JAM", "a"),)})
        self.assertEqual(played(one_method(*jam), ["m"], []), ([("m", "JAM", NONE)], ("ended",)))
        self.assertEqual(played(one_method(("try", jam, (((), (("say", "no"),)),))), ["m"], [])[0], [("m", "no", NONE)])

    def test_other_variables_are_gone(self):
        body = (("has", "x", (SAY,), ()), new("x"), ("say", "no"))
        self.assertEqual(inferred(one_method(*body)).moves(), {("a", "m"): (("no", "a"),)})
        self.assertEqual(played(one_method(*body), ["m", "m"], []), ([("m", "no", NONE)] * 2, ("ended",)))
        body = (new("x", "box"), call("x", "lift"), SAY)
        self.assertEqual(played(one_method(*body), ["m"], []), ([], ("wrong", 0, (0, 3), ("dropped", "box", "ajar"))))
        self.assertEqual(inferred(one_method(*body)).moves(), {})
        body = (new("f", "box"), call("f", "lift"), ("copy", "x", "f"), SAY)
        self.assertEqual(inferred(one_method(*body)).ends, ("a",))
        self.assertEqual(shapes(one_method(*body)), {"a": NONE, "b": ((1,), (("box", "ajar"),))})
        self.assertEqual(inferred(one_method(*body)).moves(), {("a", "m"): (("yes", "b"),)})

    def test_fields_stay_when_an_error_is_raised(self):
        built = Built("c", KINDS, ["f"], [("m", (new("f", "box"), call("f", "kick"))), ("n", (call("f", "lower"),))])
        self.assertEqual(inferred(built)["a", "m"], (("E", "b"), ("F", "c"), ("no", "c")))
        self.assertEqual(shapes(built), {"a": NONE, "b": ((1,), (("box", "ajar"),)), "c": ((1,), (("box", "shut"),))})
        self.assertEqual(inferred(built).ends, ("a", "c"))
        self.assertEqual(inferred(built)["b", "m"], None)
        self.assertEqual(inferred(built)["b", "n"], (("no", "c"),))

    def test_one_object_in_two_fields(self):
        body = (new("f", "box"), ("copy", "g", "f"), call("g", "lift"))
        built = Built("c", KINDS, ["f", "g"], [("m", body), ("n", (("none", "f"),)), ("o", (call("g", "lower"),))])
        self.assertEqual(shapes(built)["b"], ((1, 1), (("box", "ajar"),)))
        self.assertEqual(shapes(built)["c"], ((0, 1), (("box", "ajar"),)))
        self.assertEqual(played(built, ["m", "n", "n"], [])[0][1:], [("n", "no", ((0, 1), (("box", "ajar"),)))] * 2)
        self.assertEqual(infer(built), (inferred(built).moves(), inferred(built).ends, shapes(built)))

    def test_numbers_of_objects(self):
        body = (new("f"), new("g", "box"), new("h", "lock"), ("copy", "x", "f"), ("copy", "f", "h"), ("copy", "h", "x"))
        self.assertEqual(shapes(one_method(*body, fields=("f", "g", "h")))["b"],
                         ((1, 2, 3), (("lock", "free"), ("box", "shut"), ("plain", "s"))))

    def test_calls_that_wait_or_go_on_for_ever(self):
        for body in ((("wait",),), (new("x", "box"), call("x", "lift"), call("x", "stay")), (("loop", (("loop", ()), ("again",))), ("wait",))):
            self.assertEqual(inferred(one_method(*body)).moves(), {("a", "m"): ()})
        self.assertEqual(played(one_method(("wait",)), ["m", "m"], []), ([], ("waits",)))
        self.assertEqual(played(one_method(("loop", ())), ["m"], [1] * 9), ([], ("open",)))
        self.assertEqual(played(one_method(("loop", ())), ["m"], [1] * 1000), ([], ("spent",)))
        body = (("maybe", (("wait",),), (call("f", "m"),)),)
        self.assertEqual(inferred(one_method(*body)).moves(), {})
        body = (("maybe", (("wait",),), (SAY,)),)
        self.assertEqual(inferred(one_method(*body)).moves(), {("a", "m"): (("yes", "a"),)})

    def test_what_a_field_held_is_dropped(self):
        body = (new("f", "box"), call("f", "lift"), new("f"))
        self.assertEqual(played(one_method(*body), ["m"], []), ([], ("wrong", 0, (0, 2), ("dropped", "box", "ajar"))))
        built = Built("c", KINDS, ["f"], [("m", (new("f", "box"), call("f", "lift")))])
        self.assertEqual(played(built, ["m", "m"], [])[1], ("wrong", 1, (0, 0), ("dropped", "box", "ajar")))

    def test_a_class_without_moves_in_its_kind(self):
        self.assertEqual(inferred(one_method(call("f", "m"))), Kind("c", "a", ["a"], {}))
        self.assertEqual(shapes(one_method(call("f", "m"))), {"a": NONE})


class Bad(unittest.TestCase):
    def check(self, place, name="c", kinds=KINDS, fields=("f",), methods=(("m", ()),)):
        with self.assertRaises(BadBuilt) as caught:
            Built(name, kinds, fields, methods)
        self.assertEqual(caught.exception.place, place)

    def check_body(self, place, *body, **more):
        self.check((1,) + place, methods=[("ahead", ()), ("m", body), ("behind", (None,))], **more)

    def test_parts(self):
        for thing in no_names():
            self.check((), name=thing)
            self.check((), fields=[thing])
            self.check((0,), methods=[(thing, ())])
        for thing in no_rows() + [[], ()]:
            self.check((), kinds=thing)
            self.check((), fields=thing)
            self.check((), methods=thing)
        for thing in no_rows():
            self.check((1,), methods=[("m", ()), ("n", thing)])
        for thing in no_rows() + rows() + [("n",), ("n", (), ()), ("n", "m"), ("m", ())]:
            if thing != (["a"], ["b"]) and thing != ("a", []):
                self.check((1,), methods=[("m", ()), thing, (None,)])
        for kinds in ([BOX, None], [BOX, BOX.renamed("box")], [plain_kind(name) for name in "abcde"], [make_reader()], ["box"]):
            self.check((), kinds=kinds)
        for fields in (["f", "f"], ["f", "g", "h", "i"], [["f"]], "f", {"f": 1}):
            self.check((), fields=fields)
        self.check((), methods=[("m" + letter, ()) for letter in "abcdefghi"])
        Built("c", [plain_kind(name) for name in "abcd"], list("fgh"), [("m" + letter, ()) for letter in "abcdefgh"])

    def test_which_goes_ahead(self):
        self.check((), name="", methods=[None])
        self.check((), methods=[("m", ())] * 9)
        self.check((0,), methods=[None, ("m", (None,))])
        self.check((1,), methods=[("m", (None,)), ("m", ())])
        self.check((0, 0), methods=[("m", (None,)), ("n", (None,))])
        self.check((0, 1), methods=[("m", (SAY, None)), ("n", (None,))])

    def test_statements(self):
        for thing in no_names() + [(), [], ("say",), ("say", "E"), ("say", "maybe"), ("say", None), ("say", True), ("say", "yes", "no"),
                                   ("run", None, "m", ()), ("run", "x", "ahead", ()), ("return", "f"), ("return", None), ("return",),
                                   ("new", "f", "file"), ("leave",), ("again",), ("Say", "yes"), ("say", ["yes"])]:
            self.check_body((0,), thing)
            self.check_body((1,), SAY, thing, thing)
            self.check_body((0, 1, 0), ("maybe", (SAY,), (thing, SAY)))
            self.check_body((0, 2, 1), ("try", (), (((), ()), (("E",), (SAY, thing)))))
        for thing in no_errors():
            self.check_body((0,), ("raise", thing))
            self.check_body((0,), ("try", (), (((thing,), ()),)))
        self.check_body((2,), SAY, ["say", "no"], ["say", "on"])

    def test_bounds(self):
        self.check_body((200,), *[SAY] * 201)
        self.check_body((2,), new("x"), new("y"), new("z"), fields=["f", "g", "h"])
        self.check_body((3,), new("f"), ("copy", "x", "y"), ("copy", "z", "v"), ("copy", "w", "f"))
        block = (SAY,)
        for _ in range(6):
            block = (("loop", block),)
        one_method(*block)
        self.check_body((0,) * 15, ("loop", block))
        one_method(("with", "f", (("with", "f", (SAY,)),)))
        self.check_body((0, 0, 0, 0, 0), ("with", "f", (("with", "f", (("with", "f", ()),)),)))
        one_method(*[SAY] * 200)
        Built("c", KINDS, list("fgh"), [(name, (new("x"), new("y"))) for name in ("m", "n")] + [("o", (new("v"), new("w")))])

    def test_fields_count_as_variables_though_they_are_not_named(self):
        one_method(*[new(x) for x in "abcd"])
        self.check_body((4,), *[new(x) for x in "abcde"])
        self.check_body((3,), *[new(x) for x in "abcd"], fields=["f", "g"])

    def test_nested(self):
        for make in (list, tuple):
            thing = nested(make, 100)
            self.check((), kinds=thing)
            self.check((), fields=thing)
            self.check((0,), methods=[thing])
            self.check((0, 0), methods=[("m", thing)])
            self.check((0, 0), methods=[("m", [("loop", thing), ("say", thing)][1:])])
            self.check((0, 0, 0, 0), methods=[("m", [("loop", thing)])])


class Inferred(unittest.TestCase):
    def check_too_many(self, many, built):
        for ask in (inferred, shapes):
            with self.assertRaises(TooMany) as caught:
                ask(built)
            self.assertEqual(caught.exception.many, many)

    def test_sixty_shapes(self):
        states = [a + b for a in "abcde" for b in "abcdefghijkl"]
        for many in (25, 26, 27, 59, 60):
            kind = Kind("k", states[0], states[:1], {(one, "go"): [("yes", other)] for one, other in zip(states, states[1:many])})
            built = Built("c", [kind], ["f"], [("make", (new("f", "k"),)), ("go", (call("f", "go"),))])
            if many == 60:
                self.check_too_many(60, built)
                self.assertEqual(infer(built), 60)
            else:
                found = inferred(built)
                self.assertEqual((found.moves(), found.ends, shapes(built)), infer(built))
                self.assertEqual((len(found.states()), found.ends), (many + 1, ("a", "b")))
                if many == 59:
                    self.assertEqual((found["bg", "go"], found["bh", "go"]), ((("no", "bh"),), None))
                    self.assertEqual(shapes(built)["bh"], ((1,), (("k", "ek"),)))

    def test_eight_outcomes(self):
        states = [a + b for a in "abcde" for b in "abcdefghijkl"]
        for many in (8, 9):
            # By two calls so many states can come.
            moves = {("aa", "m"): [("yes", state) for state in states[1:6]]}
            moves.update({(state, "m"): [("yes", other) for other in states[6:6 + many - 4]] for state in states[1:2]})
            moves.update({(state, "m"): [("no", state)] for state in states[2:6]})
            kind = Kind("k", "aa", states, moves)
            built = Built("c", [kind], ["f"], [("m", (new("f", "k"), call("f", "m"), call("f", "m")))])
            if many == 8:
                self.assertEqual(len(inferred(built)["a", "m"]), 8)
                self.assertEqual(infer(built)[0], inferred(built).moves())
            else:
                self.check_too_many(8, built)

    def test_a_ninth_outcome_of_a_method_that_is_barred(self):
        body = [new("f", "wide"), call("f", "m"), call("f", "m"), ("maybe", (call("g", "m"),), ())]
        built = Built("c", [WIDE], ["f", "g"], [("m", body)])
        self.assertEqual(inferred(built).moves(), {})
        self.check_too_many(8, Built("c", [WIDE], ["f"], [("m", body[:3])]))

    def test_four_thousand_rows(self):
        for many in (4000, 4001):
            for last in ((), (call("y", "m"),)):
                # A last call that goes wrong has as many rows as the END to which one does not come then.
                built = Built("c", [WIDE], ["f"], [("m", wide_body(many) + list(last))])
                if many == 4000:
                    expected = {} if last else {("a", "m"): (("no", "a"),)}
                    self.assertEqual(inferred(built).moves(), expected)
                else:
                    self.check_too_many(4000, built)
        self.assertEqual(answers_of(Object(one_method(kinds=[WIDE])), "m", 5)[2], 1)

    def test_which_bound_comes_first(self):
        wide, great = ("b", [new("f", "wide"), call("f", "m"), call("f", "m")]), ("c", wide_body(4001))
        for methods, many in (([wide, great], 8), ([great, wide], 8), ([("z",) + wide[1:], great], 4000),
                              ([great, ("a", (new("f", "wide"),)), wide], 8)):
            self.check_too_many(many, Built("k", [WIDE], ["f"], methods))
        # The sixty-first shape comes ahead of what is asked of later shapes.
        states = [a + b for a in "abcde" for b in "abcdefghijkl"]
        moves = {(one, "go"): [("yes", other)] for one, other in zip(states, states[1:])}
        kind = Kind("k", states[0], states, moves)
        methods = [("go", (call("f", "go"),)), ("make", (new("f", "k"),))]
        last = ("last", (("try", (call("f", "last"),), ()), wide[1][0], call("f", "m"), call("f", "m")))
        moves[states[-1], "last"] = [("yes", states[-1])]
        for one, many in ((kind, 60), (Kind("k", states[0], states, moves), 60)):
            self.check_too_many(many, Built("c", [one, WIDE], ["f"], methods + [last]))
        moves[states[-3], "last"] = [("yes", states[-1])]
        self.check_too_many(8, Built("c", [Kind("k", states[0], states, moves), WIDE], ["f"], methods + [last]))

    def test_drawn(self):
        seen = {}
        for states, many in ((2, 250), (3, 250), (4, 150)):
            for chance, built in draw_classes(400 + states, many, states=states):
                expected = infer(built)
                if isinstance(expected, int):
                    self.check_too_many(expected, built)
                else:
                    found = inferred(built)
                    self.assertEqual((found.moves(), found.ends, shapes(built)), expected)
                    self.assertEqual((found.name, found.start), (built.name, "a"))
                size = expected if isinstance(expected, int) else len(expected[2])
                seen[min(size, 9)] = seen.get(min(size, 9), 0) + 1
        self.assertGreater(sum(many for size, many in seen.items() if size > 2), 120, seen)

    def test_as_it_is_played(self):
        whole = 0
        for chance, built in draw_classes(410, 300, states=3):
            try:
                kind, known = inferred(built), {shape: state for state, shape in shapes(built).items()}
            except TooMany:
                continue
            for _ in range(6):
                methods = [chance.choice([method for method, _ in built.methods()]) for _ in range(chance.randint(0, 8))]
                answers, end = played(built, methods, [chance.randint(0, 7) for _ in range(100)])
                state, history = "a", []
                for method, answer, shape in answers:
                    if kind[state, method] is None:
                        # Some other call from there goes wrong; the kind tells nothing of what comes of this one.
                        break
                    history.append((method, answer))
                    self.assertIn((answer, known[shape]), kind[state, method])
                    state = known[shape]
                    self.assertIn(state, after(kind, history))
                else:
                    whole += 1
                    if end[0] == "wrong":
                        self.assertIsNone(kind[state, methods[end[1]]])
        self.assertGreater(whole, 500)


class HandsOn(unittest.TestCase):
    """Classes that hand calls on to one object."""

    def handing(self, kind):
        """The class that makes an object when it is called first, and hands all calls on to it."""
        head = ("has", "f", (), (new("f", kind.name),))
        methods = [(method, (head, ("test", "f", method, (SAY,), (("say", "no"),)))) for method in kind.methods()]
        return Built(kind.name, [kind], ["f"], methods)

    def test_both_stand_in_for_one_another(self):
        chance = random.Random(420)
        kinds = [BOX, LOCK, make_file(), CALM] + [draw_kind(chance, "k", 4) for _ in range(150)]
        for kind in kinds:
            if kind.methods():
                found = inferred(self.handing(kind))
                self.assertIsNone(parted(kind, found))
                # Ahead of the first call there is no object, so it may be dropped though the kind may not.
                if kind.start in kind.ends:
                    self.assertIsNone(parted(found, kind))
                else:
                    self.assertEqual(parted(found, kind), ((), ("dropped",)))

    def test_programs_with_what_is_handed_on(self):
        for kind in (BOX, LOCK):
            found = inferred(self.handing(kind))
            program = Program([kind], [("main", (), [new("x", kind.name)] + [call("x", method) for method in ("lift", "lower")])])
            self.assertEqual(program.replaced(found).kinds(), [found])


class Played(unittest.TestCase):
    def test_drawn(self):
        seen = {}
        for chance, built in draw_classes(430, 400, states=3):
            for _ in range(5):
                methods = [chance.choice([method for method, _ in built.methods()]) for _ in range(chance.randint(0, 7))]
                choices = [chance.randint(0, 10 ** 29) for _ in range(chance.choice([0, 3, 10, 30]))]
                most = chance.choice([500, 500, 500, 1, 5, 20, 2000])
                expected = play(built, methods, choices, most)
                self.assertEqual(played(built, methods, choices, most=most), expected)
                seen[expected[1][0]] = seen.get(expected[1][0], 0) + 1
        self.assertGreater(min(seen[what] for what in ("ended", "wrong", "waits", "open", "spent")), 30, seen)

    def test_steps_are_counted_through_all_calls(self):
        built = one_method(SAY)
        for many in (0, 1, 2, 99, 100):
            found = ([("m", "yes", NONE)] * many, ("ended",))
            self.assertEqual(played(built, ["m"] * many, [], most=max(1, 2 * many)), found)
            if many > 0:
                self.assertEqual(played(built, ["m"] * many, [], most=2 * many - 1), (found[0][1:], ("spent",)))
        built = one_method(*[("none", "f")] * 5)
        self.assertEqual(played(built, ["m"] * 83, []), ([("m", "no", NONE)] * 83, ("ended",)))
        self.assertEqual(played(built, ["m"] * 84, []), ([("m", "no", NONE)] * 83, ("spent",)))
        built = one_method(*[("none", "f")] * 4)
        self.assertEqual(played(built, ["m"] * 100, []), ([("m", "no", NONE)] * 100, ("ended",)))
        self.assertEqual(played(built, ["m"] * 100, [], most=499)[1], ("spent",))

    def test_five_hundred_steps_if_nothing_is_told(self):
        # By 99 calls of five steps and one of so many more.
        for many, end in ((4, ("ended",)), (5, ("spent",)), (6, ("spent",))):
            built = Built("c", KINDS, ["f"], [("m", [("none", "f")] * 4), ("n", [("none", "f")] * many)])
            self.assertEqual(played(built, ["m"] * 99 + ["n"], [])[1], end)
            self.assertEqual(played(built, ["m"] * 99 + ["n"], [], most=500)[1], end)
            self.assertEqual(played(built, ["m"] * 99 + ["n"], [], most=502)[1], ("ended",))

    def test_choices_are_counted_through_all_calls(self):
        built = one_method(("maybe", (SAY,), ()))
        self.assertEqual([answer for _, answer, _ in played(built, ["m"] * 5, [0, 1, 3, 4])[0]], ["yes", "no", "no", "yes"])
        self.assertEqual(played(built, ["m"] * 5, [0, 1, 3, 4])[1], ("open",))
        self.assertEqual(played(built, ["m"] * 4, [0, 1, 3, 4])[1], ("ended",))

    def test_spent_goes_ahead_of_open(self):
        built = one_method(("none", "f"), ("maybe", (SAY,), ()))
        self.assertEqual(played(built, ["m"], [], most=1)[1], ("spent",))
        self.assertEqual(played(built, ["m"], [], most=2)[1], ("open",))

    def test_what_is_refused(self):
        reader = make_reader()
        right = ["begin", "end"]
        for thing in no_rows() + [["begin"] * 101]:
            self.check(NoMethod, "index", -1, reader, thing, [-1], most=0)
        for thing in no_names() + ["file", "open", "f", "read"]:
            self.check(NoMethod, "index", 0, reader, [thing, None], None, most=0)
            self.check(NoMethod, "index", 2, reader, right + [thing], [-1], most=0)
        for index, thing in no_choices():
            self.check(BadChoices, "index", index, reader, right, thing, most=0)
        for thing in no_numbers(1, 2000):
            self.check(NoNumber, "value", thing, reader, right, [], most=thing)
        self.assertEqual(len(played(reader, ["begin"] * 100, [], most=2000)[0]), 100)

    def check(self, error, field, value, *given, **more):
        with self.assertRaises(error) as caught:
            played(*given, **more)
        found = getattr(caught.exception, field)
        self.assertTrue(found is value or found == value and type(found) is type(value))

    def test_what_is_told_may_be_changed(self):
        reader, methods, choices = make_reader(), ["begin", "end"], [1]
        kept = played(reader, methods, choices)
        played(reader, methods, choices)[0].append(None)
        shapes(reader)["a"] = None
        self.assertEqual(played(reader, methods, choices), kept)
        self.assertEqual((shapes(reader), methods, choices), ({"a": NONE, "b": OPEN}, ["begin", "end"], [1]))


class Drawn(unittest.TestCase):
    def test_lists_and_tuples(self):
        for _, built in draw_classes(440, 50):
            def listed(thing):
                return list(map(listed, thing)) if isinstance(thing, tuple) else thing
            other = Built(built.name, tuple(built.kinds()), listed(tuple(built.fields())), listed(tuple(built.methods())))
            self.assertEqual(other, built)

    def test_spoilt(self):
        chance = random.Random(441)
        for _ in range(200):
            built = draw_class(chance)
            methods = [[method, list(body)] for method, body in built.methods()]
            number = chance.randrange(len(methods))
            at = chance.randint(0, len(methods[number][1]))
            methods[number][1].insert(at, chance.choice([None, ("return", None), ("say", "E"), ("run", None, "m", ()), ("leave",)]))
            with self.assertRaises(BadBuilt) as caught:
                Built(built.name, built.kinds(), built.fields(), methods)
            self.assertEqual(caught.exception.place, (number, at))


if __name__ == "__main__":
    unittest.main()
