"""Section 4: after and allowed."""

import random
import unittest

from rightstate.errors import BadHistory
from rightstate.kinds import Kind, after, allowed
from samples import make_file, names, nested, no_names, no_rows, no_words, rows

# A coin may have fallen either way, and nobody is told which; stuck never comes back.
COIN = Kind("coin", "held", ["held", "up", "down"], {
    ("held", "toss"): [("yes", "up"), ("yes", "down"), ("LOST", "gone")],
    ("up", "spend"): [("yes", "held")],
    ("up", "look"): [("yes", "up")],
    ("down", "look"): [("no", "down"), ("yes", "down")],
    ("down", "turn"): [("no", "up")],
    ("gone", "seek"): [],
})
ALL = ["look", "seek", "spend", "toss", "turn"]


class After(unittest.TestCase):
    def check(self, history, states, methods):
        for row in (history, tuple(history), [list(one) for one in history]):
            self.assertEqual(after(COIN, row), states)
            self.assertEqual(allowed(COIN, row), methods)

    def test_those_that_can_come(self):
        self.check([], ["held"], ["toss"])
        self.check([("toss", "yes")], ["down", "up"], ["look"])
        self.check([("toss", "LOST")], ["gone"], ["seek"])
        self.check([("toss", "yes"), ("look", "yes")], ["down", "up"], ["look"])
        self.check([("toss", "yes"), ("look", "no")], ["down"], ["look", "turn"])
        self.check([("toss", "yes"), ("turn", "no")], ["up"], ["look", "spend"])
        self.check([("toss", "yes"), ("spend", "yes")], ["held"], ["toss"])
        self.check([("toss", "yes"), ("look", "no"), ("turn", "no"), ("spend", "yes")], ["held"], ["toss"])

    def test_those_that_cannot_come(self):
        for history in ([("toss", "no")], [("look", "yes")], [("toss", "OTHER")], [("fly", "yes")],
                        [("toss", "LOST"), ("seek", "yes")], [("toss", "LOST"), ("seek", "LOST")],
                        [("toss", "yes"), ("look", "no"), ("spend", "yes")],
                        [("look", "yes"), ("toss", "yes")], [("toss", "no"), ("toss", "yes")]):
            self.check(history, [], ALL)

    def test_the_file(self):
        file = make_file()
        self.assertEqual(after(file, [("open", "LOST"), ("open", "no"), ("read", "yes")]), ["open"])
        self.assertEqual(allowed(file, [("open", "LOST")]), ["open"])
        self.assertEqual(allowed(file, [("open", "no"), ("close", "no")]), [])
        self.assertEqual(allowed(file, [("read", "no")]), ["close", "open", "read"])

    def test_kind_without_methods(self):
        kind = Kind("k", "s", [], {})
        self.assertEqual((after(kind, []), allowed(kind, [])), (["s"], []))
        self.assertEqual((after(kind, [("m", "yes")]), allowed(kind, [("m", "yes")])), ([], []))

    def test_by_name_and_unchanged(self):
        history = [["toss", "yes"], ("look", "no")]
        self.assertEqual(after(history=history, kind=COIN), ["down"])
        self.assertEqual(allowed(history=history, kind=COIN), ["look", "turn"])
        self.assertEqual(history, [["toss", "yes"], ("look", "no")])
        after(COIN, []).append("x")
        self.assertEqual(after(COIN, []), ["held"])

    def test_long_history(self):
        history = [("toss", "yes"), ("spend", "yes")] * 5000
        self.assertEqual((after(COIN, history), allowed(COIN, history[:-1])), (["held"], ["look"]))

    def test_against_runs_one_by_one(self):
        chance = random.Random(4)
        words = ["yes", "no", "E"]
        for _ in range(300):
            states, methods = names(5), ["m", "n"]
            moves = {}
            for state in states:
                for method in methods:
                    if chance.random() < 0.8:
                        every = [(word, behind) for word in words for behind in states]
                        moves[state, method] = chance.sample(every, chance.randint(0, 6))
            kind = Kind("k", states[0], [], moves)
            history = [(chance.choice(methods), chance.choice(words)) for _ in range(chance.randint(0, 4))]
            ways = [states[0]]
            for method, word in history:
                ways = [behind for state in ways for told, behind in moves.get((state, method), []) if told == word]
            self.assertEqual(after(kind, history), sorted(set(ways)))
            fits = [method for method in kind.methods() if all((state, method) in moves for state in ways)]
            self.assertEqual(allowed(kind, history), fits)


class Bad(unittest.TestCase):
    def check(self, history, index):
        for ask in (after, allowed):
            with self.assertRaises(BadHistory) as caught:
                ask(COIN, history)
            self.assertIs(type(caught.exception), BadHistory)
            self.assertEqual(caught.exception.index, index)
            self.assertIs(type(caught.exception.index), int)

    def test_no_row(self):
        for history in no_rows() + [{("toss", "yes"): 1}, {("toss", "yes")}, iter([("toss", "yes")]), "toss"]:
            self.check(history, -1)

    def test_elements(self):
        bad = no_rows() + rows() + [("toss",), ("toss", "yes", "up"), ("yes", "toss"), "no", [("toss", "yes")]]
        bad += [(name, "yes") for name in no_names()] + [["toss", word] for word in no_words()]
        good = [("toss", "yes"), ["look", "no"], ("turn", "no")]
        for one in bad:
            for at in range(4):
                self.check(good[:at] + [one] + good[at:], at)
                self.check(tuple(good[:at] + [one, one] + good[at:]), at)

    def test_also_behind_what_cannot_come(self):
        self.check([("fly", "yes"), ("toss", "LOST"), ("toss", "perhaps")], 2)
        self.check([("toss", "yes")] * 9999 + [None], 9999)

    def test_deep(self):
        self.check([nested(list, 100)], 0)
        self.check([("toss", "yes"), (nested(tuple, 100), nested(list, 100))], 1)


if __name__ == "__main__":
    unittest.main()
