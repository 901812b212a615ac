"""Section 6: walks, step by step."""

import unittest

from rightstate.kinds import Kind
from rightstate.walks import Walk, walk
from things import WAIT, call, new, program_of


class Walks(unittest.TestCase):
    def go(self, body, choices=(), others=(), **more):
        return walk(program_of(body, *others), choices, **more)

    def check(self, body, choices, end, places, others=(), **more):
        found = self.go(body, choices, others, **more)
        self.assertIs(type(found), Walk)
        self.assertEqual((found.end(), found.places()), (end, places))
        self.assertEqual(found.steps(), len(places))
        self.assertEqual(len(found.rows()), len(places) + (end in (("open",), ("spent",))))
        return found

    def check_end(self, body, end, choices=(), others=(), **more):
        self.assertEqual(self.go(body, choices, others, **more).end(), end)


class WithoutCalls(Walks):
    def test_empty_body(self):
        found = self.check((), (), ("ended",), [(0, 0)])
        self.assertEqual((found.used(), found.calls(), found.objects()), (0, [], []))

    def test_new_copy_none(self):
        found = self.check((new("x"), ("copy", "y", "x"), ("none", "x"), new("x", "box")), (), ("ended",),
                           [(0, 0), (0, 1), (0, 2), (0, 3), (0, 4)])
        self.assertEqual(found.objects(), [("plain", "s"), ("box", "shut")])

    def test_has(self):
        for first, at in ((("none", "x"), 1), (new("x"), 0)):
            self.check((first, ("has", "x", (WAIT,), (WAIT,))), (), ("waits",), [(0, 0), (0, 1), (0, 1, at, 0)])

    def test_same(self):
        body = (new("x"), ("copy", "y", "x"), ("same", "x", "y", (), (WAIT,)), new("y"), ("same", "x", "y", (WAIT,), ()),
                ("none", "x"), ("same", "x", "y", (WAIT,), ()), ("none", "y"), ("same", "y", "x", (), (WAIT,)),
                ("same", "x", "x", (), (WAIT,)))
        self.check(body, (), ("ended",), [(0, at) for at in range(11)])

    def test_variables_hold_none_at_first(self):
        self.check((("same", "x", "y", (("has", "x", (WAIT,), ()),), (WAIT,)),), (), ("ended",), [(0, 0), (0, 0, 0, 0), (0, 1)])

    def test_maybe(self):
        body = (("maybe", (("none", "x"),), (("none", "y"), ("none", "y"))),)
        self.check(body, [0], ("ended",), [(0, 0), (0, 0, 0, 0), (0, 1)])
        self.check(body, [1], ("ended",), [(0, 0), (0, 0, 1, 0), (0, 0, 1, 1), (0, 1)])
        self.check(body, [], ("open",), [])

    def test_choices_beyond_the_options(self):
        body = (("maybe", (WAIT,), ()), ("maybe", (WAIT,), ()), ("maybe", (WAIT,), (new("x"),)))
        found = self.check(body, (7, 10 ** 29 + 1, 3, 2, 2), ("ended",), [(0, 0), (0, 1), (0, 2), (0, 2, 1, 0), (0, 3)])
        self.assertEqual(found.used(), 3)

    def test_wait(self):
        self.check((("none", "x"), WAIT, ("none", "x")), (), ("waits",), [(0, 0), (0, 1)])

    def test_return_and_raise_in_main(self):
        self.check((("return", None), WAIT), (), ("ended",), [(0, 0), (0, 2)])
        self.check((new("x"), ("return", "x"), WAIT), (), ("ended",), [(0, 0), (0, 1), (0, 3)])
        self.check((("raise", "E"), WAIT), (), ("raised", "E"), [(0, 0), (0, 2)])
        self.check((("maybe", (("raise", "GUARD"),), ()),), [0], ("raised", "GUARD"), [(0, 0), (0, 0, 0, 0), (0, 1)])

    def test_main_need_not_be_the_first_function(self):
        program = program_of((), ("f", (), (WAIT,)))
        other = type(program)(program.kinds(), program.functions()[::-1])
        self.assertEqual(walk(other, []).places(), [(1, 0)])
        self.assertEqual(walk(other, []).rows(), [("main", ((), ()), (1, 0), ((), (), ()))])


class Calls(Walks):
    def test_one_outcome(self):
        found = self.check((new("x", "box"), call("x", "lift"), call("x", "lower")), (), ("ended",),
                           [(0, 0), (0, 1), (0, 2), (0, 3)])
        self.assertEqual(found.calls(), [(0, "lift", "yes", "ajar"), (0, "lower", "no", "shut")])
        self.assertEqual((found.objects(), found.used()), ([("box", "shut")], 0))

    def test_options_are_sorted(self):
        body = (new("x", "box"), call("x", "kick"), call("x", "lift"))
        self.check(body, [0], ("wrong", (0, 3), ("dropped", "box", "ajar")), [(0, 0), (0, 1), (0, 3)])
        self.check(body, [1], ("raised", "F"), [(0, 0), (0, 1), (0, 3)])
        found = self.check(body, [5], ("wrong", (0, 3), ("dropped", "box", "ajar")), [(0, 0), (0, 1), (0, 2), (0, 3)])
        self.assertEqual(found.calls(), [(0, "kick", "yes", "shut"), (0, "lift", "yes", "ajar")])
        self.check(body, [], ("open",), [(0, 0)])

    def test_test(self):
        body = (new("x", "box"), call("x", "lift"), ("test", "x", "peek", (WAIT,), ()), call("x", "lower"))
        self.check(body, [0], ("ended",), [(0, at) for at in range(5)])
        found = self.check(body, [1], ("waits",), [(0, 0), (0, 1), (0, 2), (0, 2, 0, 0)])
        self.assertEqual(found.calls(), [(0, "lift", "yes", "ajar"), (0, "peek", "yes", "ajar")])

    def test_test_with_one_outcome_takes_no_choice(self):
        body = (new("x", "box"), ("test", "x", "lift", (("test", "x", "lower", (WAIT,), ()),), (WAIT,)))
        found = self.check(body, [1], ("ended",), [(0, 0), (0, 1), (0, 1, 0, 0), (0, 2)])
        self.assertEqual(found.used(), 0)

    def test_test_leaves_by_an_error(self):
        body = (new("x", "box"), ("try", (("test", "x", "fail", (WAIT,), (WAIT,)),), ((("E",), ()),)))
        self.check(body, (), ("ended",), [(0, 0), (0, 1, 0, 0), (0, 2)])

    def test_barred(self):
        found = self.check((new("x", "box"), call("x", "lower")), (), ("wrong", (0, 1), ("barred", "box", "shut", "lower")),
                           [(0, 0), (0, 1)])
        self.assertEqual((found.calls(), found.objects()), ([], [("box", "shut")]))
        for method in ("none", "enter", "peek", "stay"):
            self.check_end((new("x", "box"), ("test", "x", method, (), ())),
                           ("wrong", (0, 1), ("barred", "box", "shut", method)))

    def test_of_none(self):
        self.check((call("x", "lift"),), (), ("wrong", (0, 0), ("nothing",)), [(0, 0)])
        self.check((("test", "x", "lift", (), ()),), (), ("wrong", (0, 0), ("nothing",)), [(0, 0)])
        self.check((("with", "x", ()),), (), ("wrong", (0, 0), ("nothing",)), [(0, 0)])

    def test_move_without_outcomes(self):
        found = self.check((new("x", "box"), call("x", "lift"), call("x", "stay"), WAIT), [1], ("waits",),
                           [(0, 0), (0, 1), (0, 2)])
        self.assertEqual(found.calls(), [(0, "lift", "yes", "ajar")])
        self.assertEqual((found.objects(), found.used()), ([("box", "ajar")], 0))

    def test_one_word_to_several_states(self):
        coin = Kind("coin", "a", ["a", "b"], {("a", "toss"): [("yes", "b"), ("yes", "a")]})
        program = program_of((new("x", "coin"), call("x", "toss")), kinds=[coin])
        self.assertEqual([walk(program, [at]).objects() for at in (0, 1)], [[("coin", "a")], [("coin", "b")]])

    def test_aliases(self):
        body = (new("x", "box"), ("copy", "y", "x"), call("y", "lift"), new("y", "box"), call("x", "lower"), call("y", "lift"),
                call("y", "lower"))
        found = self.go(body)
        self.assertEqual(found.end(), ("ended",))
        self.assertEqual(found.calls(), [(0, "lift", "yes", "ajar"), (0, "lower", "no", "shut"), (1, "lift", "yes", "ajar"),
                                         (1, "lower", "no", "shut")])

    def test_answers_in_the_order_of_words_then_states(self):
        kind = Kind("k", "s", ["s", "t"], {("s", "m"): [("yes", "s"), ("no", "t"), ("no", "s"), ("E", "t"), ("Z", "s")]})
        program = program_of((new("x", "k"), ("loop", (("try", (call("x", "m"),), (((), ()),)),))), kinds=[kind])
        for option, told in enumerate([("E", "t"), ("Z", "s"), ("no", "s"), ("no", "t"), ("yes", "s")]):
            self.assertEqual(walk(program, [1, option, 0]).calls(), [(0, "m") + told])
            self.assertEqual(walk(program, [3, option + 5, 2]).calls(), [(0, "m") + told])


class Blocks(Walks):
    def test_empty_blocks(self):
        body = (("maybe", (), ()), ("has", "x", (), ()), ("same", "x", "x", (), ()), ("try", (), ()),
                ("try", (), ((("E",), (WAIT,)), ((), (WAIT,)))), ("try", (("try", (), ()),), ()), ("loop", ()))
        self.check(body, [0, 0], ("ended",), [(0, 0), (0, 1), (0, 2), (0, 6), (0, 7)])
        self.check(body, [1, 1, 1, 0], ("ended",), [(0, 0), (0, 1), (0, 2), (0, 6), (0, 6), (0, 6), (0, 7)])

    def test_try_at_the_begin_of_blocks(self):
        body = (("try", (("maybe", (("try", (("none", "x"),), ()),), (("try", (), ()), ("none", "y"))),), ()),)
        self.check(body, [0], ("ended",), [(0, 0, 0, 0), (0, 0, 0, 0, 0, 0, 0, 0), (0, 1)])
        self.check(body, [1], ("ended",), [(0, 0, 0, 0), (0, 0, 0, 0, 1, 1), (0, 1)])

    def test_nothing_but_an_empty_try(self):
        self.check((("try", (), ((("E",), (WAIT,)),)),), (), ("ended",), [(0, 1)])

    def test_loop(self):
        body = (("loop", (("none", "x"), ("none", "y"))), ("none", "x"))
        self.check(body, [0], ("ended",), [(0, 0), (0, 1), (0, 2)])
        self.check(body, [1, 0], ("ended",), [(0, 0), (0, 0, 0, 0), (0, 0, 0, 1), (0, 0), (0, 1), (0, 2)])
        found = self.check(body, [1, 1], ("open",), [(0, 0), (0, 0, 0, 0), (0, 0, 0, 1)] * 2)
        self.assertEqual(found.used(), 2)

    def test_leave_and_again(self):
        body = (("loop", (("maybe", (("leave",), WAIT), (("again",), WAIT)), WAIT)), ("none", "x"))
        self.check(body, [1, 0], ("ended",), [(0, 0), (0, 0, 0, 0), (0, 0, 0, 0, 0, 0), (0, 1), (0, 2)])
        self.check(body, [1, 1, 0], ("ended",), [(0, 0), (0, 0, 0, 0), (0, 0, 0, 0, 1, 0), (0, 0), (0, 1), (0, 2)])

    def test_the_nearest_loop(self):
        body = (("loop", (("loop", (("leave",),)), ("loop", (("again",),)), ("leave",))),)
        self.check(body, [1, 1, 1, 0], ("ended",),
                   [(0, 0), (0, 0, 0, 0), (0, 0, 0, 0, 0, 0), (0, 0, 0, 1), (0, 0, 0, 1, 0, 0), (0, 0, 0, 1), (0, 0, 0, 2),
                    (0, 1)])

    def test_loop_at_the_end_of_a_loop(self):
        body = (("loop", (("loop", ()),)),)
        self.check(body, [1, 0, 0], ("ended",), [(0, 0), (0, 0, 0, 0), (0, 0), (0, 1)])

    def test_leave_behind_the_last_statement_of_an_outer_block(self):
        body = (("maybe", (("loop", (("leave",),)),), ()), ("none", "x"))
        self.check(body, [0, 1], ("ended",), [(0, 0), (0, 0, 0, 0), (0, 0, 0, 0, 0, 0), (0, 1), (0, 2)])

    def test_out_of_tries(self):
        body = (("loop", (("try", (("leave",),), ((("E",), (WAIT,)), ((), (WAIT,)))),)),
                ("loop", (("try", (("raise", "E"),), (((), (("leave",),)),)),)))
        self.check(body, [1, 1], ("ended",),
                   [(0, 0), (0, 0, 0, 0, 0, 0), (0, 1), (0, 1, 0, 0, 0, 0), (0, 1, 0, 0, 1, 0), (0, 2)])

    def test_ends_of_blocks_far_out(self):
        body = (("has", "x", (), (("same", "x", "x", (("maybe", (("try", (("none", "x"),), ()),), ()),), ()),)), WAIT)
        self.check(body, [0], ("waits",), [(0, 0), (0, 0, 1, 0), (0, 0, 1, 0, 0, 0), (0, 0, 1, 0, 0, 0, 0, 0, 0, 0), (0, 1)])


class Errors(Walks):
    def handled(self, error, handlers, places, end=("ended",)):
        body = (("try", (("raise", error), WAIT), handlers), ("none", "x"))
        self.check(body, (), end, places)

    def test_first_handler_that_has_it(self):
        for errors in (("E",), ("F", "E"), ("E", "F"), ()):
            self.handled("E", ((("F",), (WAIT,)), (errors, ()), ((), (WAIT,))), [(0, 0, 0, 0), (0, 1), (0, 2)])
            self.handled("E", ((errors, (("none", "y"),)), (("E",), (WAIT,))), [(0, 0, 0, 0), (0, 0, 1, 0), (0, 1), (0, 2)])

    def test_no_handler_has_it(self):
        for handlers in ((), ((("F",), (WAIT,)),), ((("F", "G"), (WAIT,)), (("EE",), (WAIT,)))):
            self.handled("E", handlers, [(0, 0, 0, 0), (0, 2)], ("raised", "E"))

    def test_outer_handlers(self):
        inner = ("try", (("raise", "E"),), ((("F",), (WAIT,)),))
        body = (("try", (("try", (inner, WAIT), ((("G",), (WAIT,)),)), WAIT), ((("E",), ()),)),)
        self.check(body, (), ("ended",), [(0, 0, 0, 0, 0, 0, 0, 0), (0, 1)])

    def test_raised_in_a_handler(self):
        body = (("try", (("try", (("raise", "E"),), ((("E",), (("raise", "F"),)), (("F",), (WAIT,)))),), ((("F",), ()),)),)
        self.check(body, (), ("ended",), [(0, 0, 0, 0, 0, 0), (0, 0, 0, 0, 1, 0), (0, 1)])

    def test_behind_the_try(self):
        body = (("try", (), (((), (WAIT,)),)), ("raise", "E"))
        self.check(body, (), ("raised", "E"), [(0, 1), (0, 2)])

    def test_errors_of_calls(self):
        body = (new("x", "box"), ("try", (call("x", "kick"), ("raise", "G")), ((("F",), (("none", "x"),)), (("G",), ()))),
                ("has", "x", (), (WAIT,)))
        self.check(body, [1], ("waits",), [(0, 0), (0, 1, 0, 0), (0, 1, 1, 0), (0, 2), (0, 2, 1, 0)])
        self.check(body, [2], ("ended",), [(0, 0), (0, 1, 0, 0), (0, 1, 0, 1), (0, 2), (0, 3)])
        found = self.check(body, [0], ("wrong", (0, 3), ("dropped", "box", "ajar")), [(0, 0), (0, 1, 0, 0), (0, 3)])
        self.assertEqual(found.calls(), [(0, "kick", "E", "ajar")])

    def test_guard_is_an_error_like_others(self):
        self.handled("GUARD", ((("GUARD",), ()),), [(0, 0, 0, 0), (0, 1), (0, 2)])
        self.check_end((("raise", "GUARD"),), ("raised", "GUARD"))


class Withs(Walks):
    def test_enter_and_exit(self):
        body = (new("x", "lock"), ("with", "x", (("none", "y"),)), ("none", "y"))
        found = self.check(body, (), ("ended",), [(0, 0), (0, 1), (0, 1, 0, 0), (0, 1, 1), (0, 2), (0, 3)])
        self.assertEqual(found.calls(), [(0, "enter", "yes", "held"), (0, "exit", "yes", "free")])

    def test_empty_block(self):
        self.check((new("x", "lock"), ("with", "x", ())), (), ("ended",), [(0, 0), (0, 1), (0, 1, 1), (0, 2)])

    def test_the_object_is_held_though_the_variable_is_not(self):
        body = (new("x", "lock"), ("with", "x", (("none", "x"), new("x", "box"))), call("x", "lift"))
        found = self.go(body)
        self.assertEqual(found.calls(), [(0, "enter", "yes", "held"), (0, "exit", "yes", "free"), (1, "lift", "yes", "ajar")])

    def test_dropped_as_the_hold_ends(self):
        body = (new("x", "lock"), ("with", "x", (call("x", "melt"), ("none", "x"))), WAIT)
        found = self.check(body, (), ("wrong", (0, 1, 1), ("dropped", "lock", "burnt")),
                           [(0, 0), (0, 1), (0, 1, 0, 0), (0, 1, 0, 1), (0, 1, 1)])
        self.assertEqual(found.calls()[-1], (0, "exit", "yes", "burnt"))
        self.assertEqual(found.objects(), [("lock", "burnt")])
        self.check_end((new("x", "lock"), ("with", "x", (call("x", "melt"),)), WAIT), ("waits",))

    def test_enter_raises(self):
        body = (new("x", "lock"), call("x", "lame"), ("try", (("with", "x", (WAIT,)),), ((("LAME",), ()),)))
        found = self.check(body, (), ("ended",), [(0, 0), (0, 1), (0, 2, 0, 0), (0, 3)])
        self.assertEqual(found.calls()[-1], (0, "enter", "LAME", "free"))

    def test_enter_and_exit_barred(self):
        self.check_end((new("x"), ("with", "x", ())), ("wrong", (0, 1), ("barred", "plain", "s", "enter")))
        stuck = Kind("stuck", "s", ["s"], {("s", "enter"): [("yes", "s")]})
        found = walk(program_of((new("x", "stuck"), ("with", "x", ())), kinds=[stuck]), [])
        self.assertEqual(found.end(), ("wrong", (0, 1, 1), ("barred", "stuck", "s", "exit")))

    def test_enter_and_exit_that_wait(self):
        for waiting in ("enter", "exit"):
            moves = {("s", "enter"): [("yes", "s")], ("s", "exit"): [("no", "s")], ("s", waiting): []}
            program = program_of((new("x", "k"), ("with", "x", ())), kinds=[Kind("k", "s", [], moves)])
            self.assertEqual(walk(program, []).end(), ("waits",))
            self.assertEqual(len(walk(program, []).calls()), 0 if waiting == "enter" else 1)

    def test_errors_pass_the_exit(self):
        body = (new("x", "lock"), ("try", (("with", "x", (("raise", "E"), WAIT)), WAIT), ((("E",), (("none", "x"),)),)))
        found = self.check(body, (), ("ended",), [(0, 0), (0, 1, 0, 0), (0, 1, 0, 0, 0, 0), (0, 1, 0, 0, 1), (0, 1, 1, 0), (0, 2)])
        self.assertEqual(found.rows()[3][3], ((1, 1), (("lock", "held"),), ("raise", "E")))

    def test_error_of_exit_takes_the_place_of_the_pending(self):
        for leaving in (("raise", "E"), ("return", "x"), ("return", None), call("x", "jam")):
            body = (new("x", "lock"), ("try", (("with", "x", (call("x", "jam"), leaving)), WAIT), ((("JAM",), ()),)))
            if leaving[0] == "call":
                body = (new("x", "lock"), ("try", (("with", "x", (leaving,)), WAIT), ((("JAM",), ()),)))
            found = self.go(body)
            self.assertEqual(found.end(), ("ended",))
            self.assertEqual(found.calls()[-1], (0, "exit", "JAM", "free"))
            self.assertEqual(found.places()[-2:], [(0, 1, 0, 0, 1), (0, 2)])

    def test_handlers_within_the_block_do_not_catch_what_exit_raises(self):
        body = (new("x", "lock"), ("with", "x", (("try", (call("x", "jam"),), (((), (WAIT,)),)),)))
        self.check_end(body, ("raised", "JAM"))

    def test_leave_and_again_pass_the_exit(self):
        body = (new("x", "lock"), ("loop", (("with", "x", (("maybe", (("leave",),), (("again",),)), WAIT)), WAIT)))
        found = self.check(body, [1, 0], ("ended",),
                           [(0, 0), (0, 1), (0, 1, 0, 0), (0, 1, 0, 0, 0, 0), (0, 1, 0, 0, 0, 0, 0, 0), (0, 1, 0, 0, 1), (0, 2)])
        self.assertEqual(found.rows()[5][3], ((1, 1), (("lock", "held"),), ("leave",)))
        found = self.check(body, [1, 1, 0], ("ended",),
                           [(0, 0), (0, 1), (0, 1, 0, 0), (0, 1, 0, 0, 0, 0), (0, 1, 0, 0, 0, 0, 1, 0), (0, 1, 0, 0, 1), (0, 1),
                            (0, 2)])
        self.assertEqual(found.rows()[5][3], ((1, 1), (("lock", "held"),), ("again",)))

    def test_a_loop_within_the_block_is_left_without_the_exit(self):
        body = (new("x", "lock"), ("with", "x", (("loop", (("leave",),)), ("none", "y"))))
        self.check(body, [1], ("ended",), [(0, 0), (0, 1), (0, 1, 0, 0), (0, 1, 0, 0, 0, 0), (0, 1, 0, 1), (0, 1, 1), (0, 2)])

    def test_two_withs(self):
        body = (new("x", "lock"), new("y", "lock"), ("with", "x", (("with", "y", (("none", "y"), ("return", "x"))),)), WAIT)
        found = self.check(body, (), ("ended",), [(0, 0), (0, 1), (0, 2), (0, 2, 0, 0), (0, 2, 0, 0, 0, 0), (0, 2, 0, 0, 0, 1),
                                                  (0, 2, 0, 0, 1), (0, 2, 1), (0, 4)])
        self.assertEqual([(one[0], one[1]) for one in found.calls()], [(0, "enter"), (1, "enter"), (1, "exit"), (0, "exit")])
        self.assertEqual(found.rows()[6][3], ((1, 0, 1, 2), (("lock", "held"), ("lock", "held")), ("return", 1)))
        self.assertEqual(found.rows()[7][3], ((1, 0, 1), (("lock", "held"),), ("return", 1)))
        self.assertEqual(found.rows()[8][3], ((1, 0), (("lock", "free"),), ("return", 1)))

    def test_the_same_object_twice(self):
        body = (new("x", "lock"), ("with", "x", (("with", "x", ()),)))
        found = self.go(body)
        self.assertEqual([one[1:] for one in found.calls()], [("enter", "yes", "held"), ("enter", "no", "twice"),
                                                              ("exit", "no", "held"), ("exit", "yes", "free")])
        self.assertEqual(found.rows()[3][3], ((1, 1, 1), (("lock", "twice"),), ()))

    def test_with_at_the_end_of_a_loop(self):
        body = (new("x", "lock"), ("loop", (("with", "x", ()),)))
        self.check(body, [1, 0], ("ended",), [(0, 0), (0, 1), (0, 1, 0, 0), (0, 1, 0, 0, 1), (0, 1), (0, 2)])

    def test_a_return_in_main_drops_its_value(self):
        body = (new("x", "box"), call("x", "lift"), ("return", "x"))
        self.check(body, (), ("wrong", (0, 3), ("dropped", "box", "ajar")), [(0, 0), (0, 1), (0, 2), (0, 3)])


class Functions(Walks):
    def test_none_is_returned(self):
        for body in ((), (("return", None),), (("return", "y"),)):
            others = (("f", (), body),)
            self.check_end((new("x"), ("run", "x", "f", ()), ("has", "x", (WAIT,), ())), ("ended",), others=others)

    def test_places(self):
        others = (("f", ("a", "b"), (("copy", "a", "b"), ("return", "a"))),)
        body = (new("x"), new("y"), ("run", "z", "f", ("x", "y")), ("same", "z", "y", (), (WAIT,)))
        self.check(body, (), ("ended",), [(0, 0), (0, 1), (0, 2), (1, 0), (1, 1), (1, 2), (0, 2), (0, 3), (0, 4)], others)

    def test_rows_of_both(self):
        others = (("f", ("a", "b"), (("none", "a"), new("c"), ("return", "c"))),)
        found = self.go((new("x", "box"), call("x", "lift"), ("run", "y", "f", ("y", "x")), call("x", "lower")), others=others)
        entry = ((0, 1), (("box", "ajar"),))
        box = ("box", "ajar")
        self.assertEqual(found.rows()[2:8], [
            ("main", ((), ()), (0, 2), ((1, 0), (box,), ())),
            ("f", entry, (1, 0), ((0, 1, 0), (box,), ())),
            ("f", entry, (1, 1), ((0, 1, 0), (box,), ())),
            ("f", entry, (1, 2), ((0, 1, 2), (box, ("plain", "s")), ())),
            ("f", entry, (1, 3), ((0, 1, 2), (box, ("plain", "s")), ("return", 2))),
            ("main", ((), ()), (0, 2), ((1, 0), (box, ("plain", "s")), ("take", 2))),
        ])
        self.assertEqual(found.rows()[8], ("main", ((), ()), (0, 3), ((1, 2), (box, ("plain", "s")), ())))

    def test_entries(self):
        others = (("f", ("a", "b", "c"), ()),)
        for body, entry in (
                ((), ((0, 0, 0), ())),
                ((new("x"),), ((1, 0, 0), (("plain", "s"),))),
                ((new("y", "box"), ("copy", "x", "y")), ((1, 1, 0), (("box", "shut"),))),
                ((new("z", "box"), new("x", "lock")), ((1, 0, 2), (("lock", "free"), ("box", "shut")))),
                ((new("z"), new("x", "box"), ("copy", "y", "z")), ((1, 2, 2), (("box", "shut"), ("plain", "s"))))):
            rows = self.go((("none", "x"), ("none", "y"), ("none", "z")) + body + (("run", None, "f", ("x", "y", "z")),),
                           others=others).rows()
            self.assertEqual([row[:2] for row in rows if row[0] == "f"], [("f", entry)])

    def test_the_entry_tells_the_states_at_the_begin(self):
        others = (("f", ("a",), (call("a", "lift"), call("a", "lower"))),)
        rows = self.go((new("x", "box"), ("run", None, "f", ("x",))), others=others).rows()
        self.assertEqual([row[1] for row in rows if row[0] == "f"], [((1,), (("box", "shut"),))] * 3)
        self.assertEqual([row[3][1] for row in rows if row[0] == "f"],
                         [(("box", "shut"),), (("box", "ajar"),), (("box", "shut"),)])

    def test_errors_come_out(self):
        others = (("f", (), (("raise", "E"),)), ("g", (), (("run", None, "f", ()), WAIT)))
        self.check((("try", (("run", None, "g", ()), WAIT), ((("E",), ()),)),), (), ("ended",),
                   [(0, 0, 0, 0), (2, 0), (1, 0), (1, 1), (2, 2), (0, 1)], others)
        self.check_end((("run", None, "g", ()),), ("raised", "E"), others=others)

    def test_errors_come_to_exits(self):
        others = (("f", (), (("raise", "E"),)),)
        self.check((new("x", "lock"), ("with", "x", (("run", "x", "f", ()), WAIT))), (), ("raised", "E"),
                   [(0, 0), (0, 1), (0, 1, 0, 0), (1, 0), (1, 1), (0, 1, 1), (0, 2)], others)

    def test_a_handler_of_the_caller_is_none_of_the_callee(self):
        others = (("f", (), (("try", (), (((), (WAIT,)),)), ("raise", "E"))),)
        self.check_end((("try", (("run", None, "f", ()),), ((("F",), (WAIT,)),)),), ("raised", "E"), others=others)

    def test_what_is_returned_is_held(self):
        others = (("f", (), (new("x", "box"), call("x", "lift"), ("return", "x"))),)
        body = (("run", "y", "f", ()), call("y", "lower"))
        self.check(body, (), ("ended",), [(0, 0), (1, 0), (1, 1), (1, 2), (1, 3), (0, 0), (0, 1), (0, 2)], others)

    def test_what_is_returned_and_not_taken_is_dropped(self):
        others = (("f", (), (new("x", "box"), call("x", "lift"), ("return", "x"))),)
        self.check((("run", None, "f", ()), WAIT), (), ("wrong", (0, 0), ("dropped", "box", "ajar")),
                   [(0, 0), (1, 0), (1, 1), (1, 2), (1, 3), (0, 0)], others)

    def test_what_the_caller_holds_is_not_dropped(self):
        others = (("f", ("a",), (call("a", "lift"), ("none", "a"))),)
        self.check_end((new("x", "box"), ("run", None, "f", ("x",)), call("x", "lower")), ("ended",), others=others)

    def test_functions_that_run_themselves(self):
        others = (("f", ("a",), (("maybe", (("return", "a"),), (("run", "a", "f", ("a",)), ("return", "a"))),)),)
        body = (new("x"), ("run", "y", "f", ("x",)), ("same", "x", "y", (), (WAIT,)))
        for deep in range(5):
            found = self.go(body, [1] * deep + [0], others=others)
            self.assertEqual((found.end(), found.used()), (("ended",), deep + 1))
            self.assertEqual(found.steps(), 6 + deep * 5 + 2)

    def test_variables_of_each_activation_are_its_own(self):
        others = (("f", ("a",), (("has", "b", (WAIT,), ()), new("b"), ("has", "a", (), (("return", None),)),
                                 ("none", "a"), ("run", None, "f", ("a",)), ("has", "b", (), (WAIT,)))),)
        self.check_end((new("x"), ("run", None, "f", ("x",))), ("ended",), others=others)


class Dropped(Walks):
    OPEN = (new("x", "box"), call("x", "lift"))

    def dropped(self, body, place, why=("dropped", "box", "ajar"), choices=(), others=()):
        found = self.go(body, choices, others)
        self.assertEqual(found.end(), ("wrong", place, why))
        self.assertEqual(found.places()[-1], place)

    def test_by_each_statement(self):
        self.dropped(self.OPEN + (("none", "x"),), (0, 2))
        self.dropped(self.OPEN + (new("x"),), (0, 2))
        self.dropped(self.OPEN + (("copy", "x", "y"),), (0, 2))
        self.dropped(self.OPEN + (("run", "x", "f", ()),), (0, 2), others=(("f", (), ()),))
        self.dropped(self.OPEN, (0, 2))
        self.dropped(self.OPEN + (("return", "x"),), (0, 3))
        self.dropped(self.OPEN + (("raise", "E"),), (0, 3))

    def test_not_while_it_is_held_elsewhere(self):
        shut = (call("y", "lower"),)
        for last in (("none", "x"), new("x"), ("copy", "x", "z"), ("run", "x", "f", ())):
            self.check_end(self.OPEN + (("copy", "y", "x"), last) + shut, ("ended",), others=(("f", (), ()),))
        self.check_end(self.OPEN + (("copy", "x", "x"), call("x", "lower")), ("ended",))

    def test_a_new_object_is_made_though_the_old_one_is_dropped(self):
        found = self.go(self.OPEN + (new("x", "lock"),))
        self.assertEqual(found.objects(), [("box", "ajar"), ("lock", "free")])

    def test_a_start_that_is_no_end(self):
        kind = Kind("k", "s", [], {})
        found = walk(program_of((new("x", "k"), new("x", "k")), kinds=[kind]), [])
        self.assertEqual((found.end(), found.objects()), (("wrong", (0, 1), ("dropped", "k", "s")), [("k", "s")] * 2))

    def test_the_least_of_several(self):
        kinds = (Kind("b", "s", [], {}), Kind("a", "t", [], {("t", "m"): [("yes", "r")]}), Kind("c", "a", [], {}))
        body = (new("x", "b"), new("y", "c"), new("z", "a"), new("u", "a"), call("u", "m"))
        found = walk(program_of(body, kinds=kinds), [])
        self.assertEqual(found.end(), ("wrong", (0, 5), ("dropped", "a", "r")))

    def test_by_the_end_of_a_function(self):
        others = (("f", (), self.OPEN + (("raise", "E"),)),)
        self.dropped((("try", (("run", None, "f", ()),), (((), (WAIT,)),)),), (1, 3), others=others)
        others = (("f", ("a",), self.OPEN + (("return", "a"),)),)
        self.dropped((new("y"), ("run", None, "f", ("y",))), (1, 3), others=others)

    def test_what_a_pending_held(self):
        body = (new("y", "lock"), ("with", "y", (call("y", "jam"),) + (new("x", "box"), call("x", "lift"),
                                                                      ("loop", (("return", "x"),)))), WAIT)
        found = self.go((("run", None, "f", ()),), [1], (("f", (), body),))
        self.assertEqual(found.end(), ("wrong", (1, 3), ("dropped", "box", "ajar")))

    def test_all_are_gone_at_the_end_of_main(self):
        self.check_end((new("x", "box"), new("y", "lock"), ("return", "y")), ("ended",))


class Guards(Walks):
    def test_barred_and_nothing(self):
        for statement in (call("x", "lower"), ("test", "x", "lower", (WAIT,), (WAIT,)), ("with", "x", (WAIT,))):
            for first in (new("x", "box"), ("none", "x")):
                body = (first, ("try", (statement, WAIT), ((("GUARD",), (("none", "y"),)),)))
                found = self.check(body, (), ("ended",), [(0, 0), (0, 1, 0, 0), (0, 1, 1, 0), (0, 2)], guards=[(0, 1, 0, 0)])
                self.assertEqual(found.calls(), [])
                self.check_end((first, statement, WAIT), ("raised", "GUARD"), guards=[(0, 1)])

    def test_exit(self):
        stuck = Kind("stuck", "s", [], {("s", "enter"): [("yes", "s")]})
        body = (new("x", "stuck"), ("try", (("with", "x", (("raise", "E"),)),), ((("GUARD",), ()), ((), (WAIT,)))))
        program = program_of(body, kinds=[stuck])
        found = walk(program, [], guards=[(0, 1, 0, 0, 1), (0, 2)])
        self.assertEqual(found.end(), ("ended",))
        self.assertEqual(found.rows()[-1], ("main", ((), ()), (0, 2), ((1,), (("stuck", "s"),), ())))
        self.assertEqual(found.calls(), [(0, "enter", "yes", "s")])
        self.assertEqual(walk(program, []).end(), ("wrong", (0, 1, 0, 0, 1), ("barred", "stuck", "s", "exit")))

    def test_dropped_are_let_by(self):
        body = (new("x", "box"), call("x", "lift"), ("none", "x"), new("x", "box"), call("x", "lift"))
        self.check_end(body, ("wrong", (0, 5), ("dropped", "box", "ajar")), guards=[(0, 2)])
        found = self.go(body, guards=[(0, 2), (0, 5)])
        self.assertEqual((found.end(), found.objects()), (("ended",), [("box", "ajar")] * 2))
        self.assertEqual(found.rows()[3], ("main", ((), ()), (0, 3), ((0,), (), ())))

    def test_what_does_not_go_wrong_is_as_without(self):
        body = (new("x", "box"), call("x", "kick"), call("x", "lift"), call("x", "lower"))
        points = program_of(body).points()
        for choices in ([], [1], [2]):
            self.assertEqual(self.go(body, choices, guards=points).rows(), self.go(body, choices).rows())

    def test_only_at_the_guards(self):
        body = (("try", (call("x", "m"),), ((("GUARD",), ()),)), call("x", "m"))
        self.check_end(body, ("wrong", (0, 1), ("nothing",)), guards=[(0, 0, 0, 0), (0, 2)])
        self.check_end(body, ("wrong", (0, 0, 0, 0), ("nothing",)), guards=[(0, 1)])

    def test_a_call_that_waits_is_not_changed(self):
        body = (new("x", "box"), call("x", "lift"), call("x", "stay"))
        self.check_end(body, ("waits",), guards=[(0, 2)])

    def test_errors_of_calls_are_not_changed(self):
        self.check_end((new("x", "box"), call("x", "fail")), ("raised", "E"), guards=[(0, 1)])

    def test_a_guard_takes_no_choice(self):
        body = (new("x", "box"), ("try", (call("x", "peek"),), (((), ()),)), ("maybe", (WAIT,), ()))
        found = self.go(body, [1], guards=[(0, 1, 0, 0)])
        self.assertEqual((found.end(), found.used()), (("ended",), 1))

    def test_rows_for_guards_and_twice(self):
        for guards in ([(0, 0)], ((0, 0),), [[0, 0]], ([0, 0], (0, 0)), [(0, 1), (0, 0)]):
            self.check_end((call("x", "m"),), ("raised", "GUARD"), guards=guards)


class Told(Walks):
    def test_open_and_spent(self):
        body = (("none", "x"), ("maybe", (), ()), ("none", "x"))
        found = self.check(body, [], ("open",), [(0, 0)])
        self.assertEqual((found.used(), found.rows()[-1][2]), (0, (0, 1)))
        found = self.check(body, [], ("spent",), [(0, 0)], most=1)
        self.assertEqual(found.rows()[-1][2], (0, 1))
        self.check(body, [1], ("spent",), [(0, 0), (0, 1)], most=2)
        self.check(body, [1], ("spent",), [(0, 0), (0, 1), (0, 2)], most=3)
        self.check(body, [1], ("ended",), [(0, 0), (0, 1), (0, 2), (0, 3)], most=4)

    def test_over_with_the_last_step(self):
        self.check((WAIT,), (), ("waits",), [(0, 0)], most=1)
        self.check((call("x", "m"),), (), ("wrong", (0, 0), ("nothing",)), [(0, 0)], most=1)
        self.check((), (), ("ended",), [(0, 0)], most=1)

    def test_the_default_of_most(self):
        body = (("loop", ()),)
        found = self.go(body, [1] * 1000)
        self.assertEqual((found.end(), found.steps(), found.used(), len(found.rows())), (("spent",), 500, 500, 501))
        self.assertEqual(self.go(body, [1] * 499 + [0]).steps(), 500)
        self.assertEqual(self.go(body, [1] * 498 + [0]).end(), ("ended",))

    def test_deep(self):
        for others in ((("f", (), (("run", None, "f", ()),)),), (("f", (), (("run", "x", "g", ()),)), ("g", (), (("run", "x", "f", ()),)))):
            found = self.go((("run", None, "f", ()),), others=others, most=2000)
            self.assertEqual((found.end(), found.steps(), len(found.rows())), (("spent",), 2000, 2001))

    def test_deep_and_back(self):
        others = (("f", ("a",), (("maybe", (("raise", "E"),), (("run", "a", "f", ("a",)),)),)),)
        found = self.go((new("x"), ("run", None, "f", ("x",))), [1] * 600 + [0], others=others, most=2000)
        self.assertEqual((found.end(), found.steps()), (("raised", "E"), 2 + 600 * 2 + 2 + 601 + 1))

    def test_many_objects(self):
        found = self.go((("loop", (new("x", "box"),)),), [1] * 999, most=2000)
        self.assertEqual((found.end(), found.objects()), (("open",), [("box", "shut")] * 999))

    def test_what_is_told_may_be_changed(self):
        found = self.go((new("x", "lock"), ("with", "x", ())))
        ways = (found.places, found.calls, found.objects, found.rows)
        ahead = [list(way()) for way in ways]
        for way in ways:
            self.assertIs(type(way()), list)
            way().clear()
        self.assertEqual([way() for way in ways], ahead)

    def test_arguments_stay(self):
        choices, guards = [1, 0], [[0, 0], (0, 1)]
        program = program_of((("maybe", (), ()), call("x", "m")))
        found = walk(program, choices, guards=guards)
        self.assertEqual((choices, guards), ([1, 0], [[0, 0], (0, 1)]))
        choices.clear()
        guards.clear()
        self.assertEqual((found.end(), found.used()), (("raised", "GUARD"), 1))
        self.assertEqual(walk(program, choices).end(), ("open",))

    def test_kinds_of_values(self):
        found = self.go((new("x", "lock"), ("with", "x", (("return", "x"),))))
        for row in found.rows():
            self.assertEqual(repr(row), repr((row[0], row[1], row[2], row[3])))
            self.assertIs(type(row[3][0]), tuple)
        self.assertEqual([type(found.used()), type(found.steps()), type(found.end())], [int, int, tuple])

    def test_names_that_stand_for_several_things(self):
        kinds = [Kind("main", "yes", ["no"], {("yes", "enter"): [("yes", "no"), ("no", "yes")], ("no", "exit"): [("no", "no")],
                                              ("yes", "exit"): [("yes", "yes")]})]
        body = (("new", "main", "main"), ("with", "main", (("run", "main", "exit", ("main",)),)))
        program = program_of(body, ("exit", ("yes",), (("return", "yes"),)), kinds=kinds)
        found = walk(program, [1])
        self.assertEqual(found.end(), ("ended",))
        self.assertEqual(found.calls(), [(0, "enter", "yes", "no"), (0, "exit", "no", "no")])
        self.assertEqual(walk(program, [0]).end(), ("wrong", (0, 2), ("dropped", "main", "yes")))


if __name__ == "__main__":
    unittest.main()
