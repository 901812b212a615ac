"""Section 14: live objects."""

import random
import unittest

from drawn import METHODS, draw_kind
from rightstate.errors import BadChoices, Barred, Met, NoNumber, NoState, RightError, Waiting
from rightstate.kinds import Kind
from rightstate.live import Live, moved, used, within
from samples import make_file, no_choices, no_names, no_numbers
from things import BOX, LOCK, PLAIN


class Model:
    """A live object by the words of the document."""

    def __init__(self, kind, picks):
        self.kind, self.picks, self.state, self.answered = kind, list(picks), kind.start, []

    def call(self, method):
        moves = self.kind.moves()
        if (self.state, method) not in moves:
            return ("barred", self.state, method)
        outcomes = sorted(moves[self.state, method])
        if not outcomes:
            return ("waiting", method)
        number = self.picks.pop(0) % len(outcomes) if len(outcomes) > 1 and self.picks else 0
        word, state = outcomes[number]
        self.answered.append((self.state, method, word, state))
        self.state = state
        return {"yes": True, "no": False}.get(word, ("met", word))


def called(live, method):
    try:
        found = live(method)
    except Met as error:
        return ("met", error.error)
    except Barred as error:
        return ("barred", error.state, error.method)
    except Waiting as error:
        return ("waiting", error.method)
    return found


class Written(unittest.TestCase):
    def test_the_example_of_the_document(self):
        live = Live(make_file(), [1])
        self.assertEqual((live("open"), live.state, "open" in live, live.left), (False, "open", False, 0))
        self.assertEqual(used(live, ["read", "close"]), [False, False])
        self.assertEqual(live.told(), [("new", "open", "no", "open"), ("open", "read", "no", "last"), ("last", "close", "no", "shut")])
        self.assertIs(live.held, False)

    def test_a_new_object(self):
        for picks in ((), [], [3, 4], (0,) * 1000, [10 ** 30 - 1]):
            live = Live(BOX, picks)
            self.assertEqual((live.state, live.left, live.held, live.told(), len(live)), ("shut", len(picks), False, [], 0))
        self.assertEqual(Live(BOX).left, 0)

    def test_answers(self):
        live = Live(BOX, [4, 0, 1])
        self.assertIs(live("lift"), True)
        self.assertIs(live("lower"), False)
        with self.assertRaises(Met) as caught:
            live("kick")
        self.assertEqual(caught.exception.error, "F")
        self.assertEqual((live.state, live.left, len(live)), ("shut", 2, 3))
        with self.assertRaises(Met) as caught:
            live("kick")
        self.assertEqual((caught.exception.error, live.state, live.left), ("E", "ajar", 1))
        with self.assertRaises(Met) as caught:
            live("fail")
        self.assertEqual((caught.exception.error, live.state, live.left, len(live)), ("F", "shut", 1, 5))

    def test_picks(self):
        kind = Kind("k", "s", [], {("s", "m"): [("yes", "s"), ("no", "s"), ("E", "s")], ("s", "n"): [("no", "s")]})
        live = Live(kind, [0, 1, 2, 3, 10 ** 30 - 1, 1])
        # Sorted, the outcomes are E, no, yes; n takes no pick.
        self.assertEqual([called(live, method) for method in "mmnmmnmmmm"],
                         [("met", "E"), False, False, True, ("met", "E"), False, ("met", "E"), False, ("met", "E"), ("met", "E")])
        self.assertEqual((live.left, len(live)), (0, 10))

    def test_barred_and_waiting_leave_all_as_it_is(self):
        live = Live(BOX, [1, 2])
        live.state = "ajar"
        for method, told in (("kick", ("barred", "ajar", "kick")), ("lift", ("barred", "ajar", "lift")), ("stay", ("waiting", "stay")),
                             ("", ("barred", "ajar", "")), ("nothing", ("barred", "ajar", "nothing"))):
            self.assertEqual(called(live, method), told)
            self.assertEqual((live.state, live.left, live.told(), len(live), live.held), ("ajar", 2, [], 0, False))

    def test_what_is_no_method(self):
        live = Live(BOX)
        for thing in no_names() + ["melt", ("shut", "lift"), ["lift"]]:
            with self.assertRaises(Barred) as caught:
                live(thing)
            self.assertEqual(caught.exception.state, "shut")
            self.assertIs(caught.exception.method, thing)
            self.assertIs(thing in live, False)
        self.assertEqual(len(live), 0)

    def test_in(self):
        live = Live(BOX)
        self.assertEqual([method for method in BOX.methods() if method in live], ["fail", "kick", "lift"])
        live.state = "ajar"
        self.assertEqual([method for method in BOX.methods() if method in live], ["fail", "lower", "peek", "stay"])
        self.assertIs("stay" in live, True)

    def test_states(self):
        live = Live(make_file(), [1])
        live("open")
        for state in ("new", "open", "last", "shut"):
            live.state = state
            self.assertEqual(live.state, state)
        self.assertEqual((len(live.told()), len(live), live.left), (1, 1, 0))
        for thing in no_names() + ["file", "ajar", "read"]:
            with self.assertRaises(NoState) as caught:
                live.state = thing
            self.assertIs(caught.exception.state, thing)
            with self.assertRaises(NoState) as caught:
                moved(live, thing)
            self.assertIs(caught.exception.state, thing)
            self.assertEqual(live.state, "shut")
        self.assertEqual((moved(live, "new"), live.state, moved(live, "new"), live.state), ("shut", "new", "new", "new"))

    def test_properties_that_cannot_be_set(self):
        live = Live(BOX, [1])
        for name in ("left", "held"):
            with self.assertRaises(AttributeError):
                setattr(live, name, True)
        self.assertEqual((live.left, live.held), (1, False))

    def test_told_may_be_changed(self):
        picks = [1, 0]
        live = Live(make_file(), picks)
        picks.clear()
        live("open")
        live.told().append(None)
        self.assertEqual((live.told(), live.left), ([("new", "open", "no", "open")], 1))
        self.assertEqual(type(live.told()[0]), tuple)

    def test_objects_of_one_kind_are_unlike(self):
        one, other = Live(BOX), Live(BOX)
        one("lift")
        self.assertEqual((one.state, other.state, len(other)), ("ajar", "shut", 0))

    def test_picks_that_are_none(self):
        for index, thing in no_choices():
            with self.assertRaises(BadChoices) as caught:
                Live(BOX, thing)
            self.assertEqual(caught.exception.index, index)
            with self.assertRaises(BadChoices):
                Live(picks=thing, kind=BOX)


class Held(unittest.TestCase):
    def test_with(self):
        live = Live(LOCK)
        with live as it:
            self.assertIs(it, live)
            self.assertIs(live.held, True)
            with live as it, live:
                self.assertIs(it.held, True)
            self.assertIs(live.held, True)
        self.assertIs(live.held, False)
        # Its methods enter and exit are not called.
        self.assertEqual((live.state, len(live)), ("free", 0))

    def test_left_by_an_error(self):
        live = Live(LOCK)
        for error in (KeyError, Met):
            with self.assertRaises(error):
                with live:
                    with live:
                        raise error("E")
            self.assertIs(live.held, False)
        with live:
            with self.assertRaises(Barred):
                with live:
                    live("exit")
            self.assertIs(live.held, True)
        self.assertIs(live.held, False)

    def test_left_by_return(self):
        live = Live(LOCK)

        def leave():
            with live:
                return live.held
        self.assertIs(leave(), True)
        for _ in range(3):
            with live:
                continue
        self.assertIs(live.held, False)

    def test_within(self):
        live = Live(LOCK)
        self.assertEqual(within(live, 0), [False])
        self.assertEqual(within(live, 1), [False, True, False])
        self.assertEqual(within(live, 3), [False, True, True, True, True, True, False])
        self.assertEqual(within(live, 20), [False] + [True] * 39 + [False])
        self.assertIs(live.held, False)
        with live:
            self.assertEqual(within(live, 2), [True] * 5)
            self.assertIs(live.held, True)
        self.assertIs(live.held, False)
        self.assertEqual({type(one) for one in within(live, 2)}, {bool})
        for thing in no_numbers(0, 20):
            with self.assertRaises(NoNumber) as caught:
                within(live, thing)
            self.assertIs(caught.exception.value, thing)

    def test_used(self):
        live = Live(LOCK)
        self.assertEqual(used(live, []), [])
        self.assertEqual(used(live, ("enter", "exit", "lame")), [True, True, True])
        self.assertEqual(live.told(), [("free", "enter", "yes", "held"), ("held", "exit", "yes", "free"), ("free", "lame", "yes", "lame")])
        with self.assertRaises(Met) as caught:
            used(live, ["enter", "enter"])
        self.assertEqual((caught.exception.error, live.state, live.held, len(live)), ("LAME", "free", False, 4))
        for methods, error in ((["enter", "melt", "enter"], Barred), (["exit", None], Barred), (["exit", []], Barred)):
            with self.assertRaises(error):
                used(live, methods)
            self.assertIs(live.held, False)
        # What was done ahead of the errors stays.
        self.assertEqual((live.state, len(live)), ("burnt", 7))

    def test_used_waits(self):
        live = Live(BOX)
        with live:
            with self.assertRaises(Waiting) as caught:
                used(live, ["lift", "stay", "lower"])
            self.assertEqual((caught.exception.method, live.state, live.held), ("stay", "ajar", True))


class Drawn(unittest.TestCase):
    def test_as_the_document_tells(self):
        chance = random.Random(450)
        seen = set()
        for _ in range(300):
            kind = draw_kind(chance, "k", 4)
            picks = [chance.randint(0, chance.choice([3, 10 ** 29])) for _ in range(chance.randint(0, 6))]
            live, model = Live(kind, picks), Model(kind, picks)
            for _ in range(chance.randint(0, 15)):
                if chance.random() < 0.15:
                    model.state = chance.choice(kind.states())
                    live.state = model.state
                method = chance.choice(METHODS + ["other"])
                self.assertIs(method in live, (model.state, method) in kind)
                expected = model.call(method)
                self.assertEqual(called(live, method), expected)
                seen.add(expected if isinstance(expected, bool) else expected[0])
                self.assertEqual((live.state, live.left, live.told(), len(live)),
                                 (model.state, len(model.picks), model.answered, len(model.answered)))
        self.assertEqual(seen, {True, False, "met", "barred", "waiting"})

    def test_used(self):
        chance = random.Random(451)
        for _ in range(200):
            kind = draw_kind(chance, "k", 3)
            methods = [chance.choice(METHODS) for _ in range(chance.randint(0, 5))]
            live, model = Live(kind, [1] * 9), Model(kind, [1] * 9)
            expected = []
            for method in methods:
                expected.append(model.call(method))
                if not isinstance(expected[-1], bool):
                    break
            try:
                self.assertEqual(used(live, methods), expected)
            except RightError:
                self.assertNotIsInstance(expected[-1], bool)
            self.assertEqual((live.told(), live.state, live.held), (model.answered, model.state, False))

    def test_a_kind_without_moves(self):
        live = Live(PLAIN)
        self.assertEqual([called(live, method) for method in METHODS], [("barred", "s", method) for method in METHODS])


if __name__ == "__main__":
    unittest.main()
