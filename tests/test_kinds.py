"""Section 4: kinds."""

import itertools
import unittest

from rightstate.errors import BadKind
from rightstate.kinds import Kind
from samples import FILE_MOVES, make_file, make_program, names, nested, no_names, no_rows, no_texts, no_words, rows

SORTED_MOVES = {
    ("last", "close"): (("no", "shut"),),
    ("new", "open"): (("LOST", "new"), ("no", "open")),
    ("open", "close"): (("no", "shut"),),
    ("open", "read"): (("no", "last"), ("yes", "open")),
}
STATES = ["last", "new", "open", "shut"]


class Told(unittest.TestCase):
    def check_file(self, kind):
        self.assertEqual((kind.name, kind.start, kind.ends), ("file", "new", ("new", "shut")))
        self.assertEqual((kind.states(), kind.methods()), (STATES, ["close", "open", "read"]))
        self.assertEqual(kind.moves(), SORTED_MOVES)
        self.assertEqual(list(kind.moves()), sorted(SORTED_MOVES))
        for state in STATES + ["yes", "none"]:
            for method in ["close", "open", "read", "new", "yes"]:
                self.assertEqual(kind[state, method], SORTED_MOVES.get((state, method)))
                self.assertIs((state, method) in kind, (state, method) in SORTED_MOVES)
                self.assertIs((state, method) not in kind, (state, method) not in SORTED_MOVES)
        self.assertTrue(kind == make_file())

    def test_all_orders(self):
        for keys in itertools.permutations(FILE_MOVES):
            self.check_file(Kind("file", "new", ["shut", "new"], {key: FILE_MOVES[key] for key in keys}))
            self.check_file(Kind("file", "new", ("new", "shut"), {key: FILE_MOVES[key][::-1] for key in keys}))

    def test_lists_and_tuples(self):
        lists = {key: [list(one) for one in FILE_MOVES[key]] for key in FILE_MOVES}
        tuples = {key: tuple(FILE_MOVES[key]) for key in FILE_MOVES}
        mixed = {key: ([one, list(one)][len(one[0]) % 2] for one in FILE_MOVES[key]) for key in FILE_MOVES}
        mixed = {key: tuple(mixed[key]) for key in mixed}
        for moves in (lists, tuples, mixed):
            for ends in (["shut", "new"], ("shut", "new")):
                self.check_file(Kind("file", "new", ends, moves))

    def test_by_name_in_any_order(self):
        told = {"name": "file", "start": "new", "ends": ["new", "shut"], "moves": FILE_MOVES}
        for order in itertools.permutations(told):
            self.check_file(Kind(**{key: told[key] for key in order}))
        self.assertEqual(make_file().renamed(name="other"), make_file().renamed("other"))

    def test_kinds_of_values(self):
        kind = make_file()
        self.assertEqual([type(one) for one in (kind.name, kind.start, kind.ends)], [str, str, tuple])
        self.assertEqual([type(one) for one in (kind.states(), kind.methods(), kind.moves())], [list, list, dict])
        for outcomes in kind.moves().values():
            self.assertEqual({type(outcomes)} | {type(one) for one in outcomes}, {tuple})
        self.assertEqual(repr(Kind("k", "a", [], {("a", "m"): [["yes", "b"]]})["a", "m"]), "(('yes', 'b'),)")

    def test_states_are_start_ends_and_those_of_moves(self):
        self.assertEqual(Kind("k", "s", [], {}).states(), ["s"])
        self.assertEqual(Kind("k", "s", ["e", "b"], {}).states(), ["b", "e", "s"])
        self.assertEqual(Kind("k", "s", [], {("a", "m"): []}).states(), ["a", "s"])
        self.assertEqual(Kind("k", "s", [], {("s", "m"): [("yes", "z"), ("NO", "c")]}).states(), ["c", "s", "z"])

    def test_ends_need_not_be_there(self):
        kind = Kind("k", "s", [], {})
        self.assertEqual((kind.ends, kind.methods(), kind.moves()), ((), [], {}))
        self.assertEqual(Kind("k", "s", ["s"], {}).ends, ("s",))

    def test_move_without_outcomes_is_no_barred_method(self):
        kind = Kind("k", "s", (), {("s", "wait"): ()})
        self.assertEqual((kind["s", "wait"], ("s", "wait") in kind, kind["s", "go"]), ((), True, None))

    def test_one_word_to_several_states(self):
        kind = Kind("k", "s", (), {("s", "m"): [("yes", "b"), ("yes", "a"), ("no", "a")]})
        self.assertEqual(kind["s", "m"], (("no", "a"), ("yes", "a"), ("yes", "b")))

    def test_the_same_name_for_things_of_several_sorts(self):
        for name in ("main", "yes", "no", "enter", "exit", "a", "abcdefgh"):
            kind = Kind(name, name, [name], {(name, name): [("yes", name), ("no", name), ("ABCDEFGH", name)]})
            self.assertEqual((kind.states(), kind.methods()), ([name], [name]))
            self.assertEqual(len(kind[name, name]), 3)

    def test_properties_cannot_be_set(self):
        kind = make_file()
        for part in ("name", "start", "ends"):
            with self.assertRaises(AttributeError):
                setattr(kind, part, "x")


class Behind(unittest.TestCase):
    """What was passed, or was told, is changed behind the call."""

    def test_what_was_passed(self):
        ends = ["new", "shut"]
        moves = {key: [list(one) for one in FILE_MOVES[key]] for key in FILE_MOVES}
        kind = Kind("file", "new", ends, moves)
        ends.append("open")
        ends[0] = "last"
        moves["new", "open"][0][1] = "last"
        moves["new", "open"].append(["GONE", "gone"])
        moves["shut", "open"] = [("no", "shut")]
        del moves["open", "read"]
        self.assertEqual(kind, make_file())
        self.assertEqual((kind.ends, kind.states(), kind.moves()), (("new", "shut"), STATES, SORTED_MOVES))

    def test_what_was_told(self):
        kind = make_file()
        kind.states().append("x")
        kind.methods().clear()
        kind.moves().clear()
        kind.moves()["new", "open"] = ()
        self.assertEqual((kind.states(), kind.methods()), (STATES, ["close", "open", "read"]))
        self.assertEqual(kind.moves(), SORTED_MOVES)
        self.assertIsNot(kind.states(), kind.states())
        self.assertIsNot(kind.moves(), kind.moves())

    def test_arguments_stay(self):
        ends = ["shut", "new"]
        moves = {key: list(FILE_MOVES[key]) for key in FILE_MOVES}
        Kind("file", "new", ends, moves).renamed("b")
        self.assertEqual((ends, moves, list(moves)), (["shut", "new"], FILE_MOVES, list(FILE_MOVES)))


class Equal(unittest.TestCase):
    def test_kinds_that_differ_in_one_part(self):
        base = ("k", "a", ["a", "b"], {("a", "m"): [("yes", "b")], ("b", "m"): [("no", "a")]})
        self.assertTrue(Kind(*base) == Kind(*base))
        self.assertFalse(Kind(*base) != Kind(*base))
        others = [
            ("j",) + base[1:],
            ("k", "b") + base[2:],
            ("k", "a", ["a"], base[3]),
            ("k", "a", ["a", "b", "c"], base[3]),
            base[:3] + ({("a", "m"): [("yes", "b")]},),
            base[:3] + ({("a", "m"): [("yes", "b")], ("b", "n"): [("no", "a")]},),
            base[:3] + ({("a", "m"): [("yes", "b")], ("b", "m"): [("yes", "a")]},),
            base[:3] + ({("a", "m"): [("yes", "b")], ("b", "m"): [("no", "b")]},),
            base[:3] + ({("a", "m"): [("yes", "b")], ("b", "m"): []},),
            base[:3] + ({("a", "m"): [("yes", "b")], ("b", "m"): [("no", "a"), ("no", "b")]},),
        ]
        for other in others:
            with self.subTest(other):
                self.assertFalse(Kind(*base) == Kind(*other))
                self.assertFalse(Kind(*other) == Kind(*base))
                self.assertTrue(Kind(*base) != Kind(*other))

    def test_other_things(self):
        kind = make_file()
        others = no_names() + no_rows() + [("file", "new", ("new", "shut"), SORTED_MOVES), "file", SORTED_MOVES]
        for other in others:
            if type(other) is not Kind:
                self.assertFalse(kind == other)
                self.assertFalse(other == kind)
                self.assertTrue(kind != other)
        self.assertFalse(kind == make_program())


class Asked(unittest.TestCase):
    """Brackets and in, with what is no pair of a state and a method."""

    def test_other_things(self):
        kind = make_file()
        things = no_names() + no_rows() + [
            ["open", "read"], ["open", ["read"]], ("open",), ("open", "read", "x"), ("open", "read", "read"),
            ("read", "open"), ("open", b"read"), ("open", None), (None, "read"), ("open", ["read"]), (["open"], "read"),
            ({}, {}), ("open", {"read"}), (("open", "read"),), ("open", ("read",)), "open", ("OPEN", "read"),
            (nested(list, 100), "read"), ("open", nested(tuple, 100)), ("open", make_file()), ("", ""),
            ("open", "read" * 5000), ("open", 10 ** 30), (True, False), frozenset({"open", "read"})]
        for thing in things:
            self.assertIsNone(kind[thing])
            self.assertIs(thing in kind, False)
            self.assertIs(thing not in kind, True)
        self.assertIsNone(kind["open":"read"])

    def test_kinds_are_not_iterated_over(self):
        for use in (iter, list, tuple, sorted, set):
            with self.assertRaises(TypeError):
                use(make_file())
        with self.assertRaises(TypeError):
            for _ in make_file():
                pass


class Renamed(unittest.TestCase):
    def test_renamed(self):
        kind = make_file()
        other = kind.renamed("other")
        self.assertEqual((other.name, other.start, other.ends), ("other", "new", ("new", "shut")))
        self.assertEqual(other.moves(), SORTED_MOVES)
        self.assertIs(type(other), Kind)
        self.assertNotEqual(other, kind)
        self.assertEqual(other.renamed("file"), kind)
        self.assertEqual(kind.renamed("file"), kind)
        self.assertEqual(kind.name, "file")

    def test_no_name(self):
        for name in no_names():
            with self.assertRaises(BadKind) as caught:
                make_file().renamed(name)
            self.assertEqual(caught.exception.part, "name")


def moves_with(many_states=1, many_methods=1, many_outcomes=1):
    """Moves between so many states (the start "s" counted), with so many methods, one with so many outcomes."""
    found = {("s", "m"): [("yes", "s")]}
    for state in names(many_states - 1):
        found[state, "m"] = []
    for method in names(many_methods - 1):
        found["s", method] = ()
    found["s", "m"] = [("E" * (k + 1), "s") for k in range(min(many_outcomes, 8))]
    found["s", "m"].extend([("yes", "s"), ("no", "s")][:many_outcomes - 8] if many_outcomes > 8 else [])
    return found


class Bad(unittest.TestCase):
    def check(self, part, *parts):
        with self.assertRaises(BadKind) as caught:
            Kind(*parts)
        self.assertIs(type(caught.exception), BadKind)
        self.assertEqual(caught.exception.part, part)

    def bad_moves(self):
        good = {("new", "open"): [("yes", "open")]}
        found = [thing for thing in no_rows() + rows() if not isinstance(thing, dict)] + [{"a": 1}, {"a": []}]
        for name in no_names():
            try:
                hash(name)
            except TypeError:
                continue
            found.append({**good, ("new", name): []})
            found.append({**good, (name, "open"): []})
            found.append({**good, name: []})
        for key in [(), ("a",), ("a", "b", "c"), "ab", frozenset({"a", "b"}), (("a", "b"),), None, 1]:
            found.append({key: []})
        for row in no_rows():
            found.append({**good, ("open", "m"): row})
            found.append({("open", "m"): row, **good})
            found.append({("a", "m"): [("yes", "a"), row]})
        for word in no_words():
            found.append({("a", "m"): [("no", "a"), (word, "a")]})
        for state in no_names():
            found.append({("a", "m"): [("no", "a"), ("yes", state)]})
        for one in [(), ("yes",), ("yes", "a", "a"), [("yes", "a")], "yes", ["a", "yes"], {"yes": "a"}]:
            found.append({("a", "m"): [one]})
        found.append({("a", "m"): [("yes", "a"), ("no", "a"), ("yes", "a")]})
        found.append({("a", "m"): [("yes", "a"), ["yes", "a"]]})
        return found

    def bad_ends(self):
        found = no_rows() + [["a", "a"], ("a", "b", "a"), ["new", "shut", "new"]]
        for name in no_names():
            found.extend([[name], ["a", name], (name, "a")])
        return found

    def test_name(self):
        for name in no_names():
            self.check("name", name, "new", ["new"], {})

    def test_signs_of_names_and_errors(self):
        small, capital = "abcdefghijklmnopqrstuvwxyz", "ABCDEFGHIJKLMNOPQRSTUVWXYZ"
        for code in list(range(0x250)) + list(range(0x370, 0x400)) + list(range(0xff00, 0xff60)) + [0x10ffff]:
            for text in (chr(code), "ab" + chr(code), chr(code) + "abcdefg"):
                if chr(code) in small:
                    self.assertEqual(Kind(text, text, [text], {}).name, text)
                else:
                    self.check("name", text, "new", [], {})
            for word in (chr(code), "AB" + chr(code), chr(code) + "ABCDEFG"):
                if chr(code) in capital:
                    self.assertEqual(Kind("k", "a", [], {("a", "m"): [(word, "a")]})["a", "m"], ((word, "a"),))
                else:
                    self.check("moves", "k", "a", [], {("a", "m"): [(word, "a")]})

    def test_start(self):
        for start in no_names():
            self.check("start", "file", start, ["new"], {})

    def test_ends(self):
        for ends in self.bad_ends():
            self.check("ends", "file", "new", ends, {})

    def test_moves(self):
        for moves in self.bad_moves():
            self.check("moves", "file", "new", ["new"], moves)

    def test_the_first_of_several_is_told(self):
        bad = {"name": "File", "start": None, "ends": ["a", "a"], "moves": {("a", "m"): [("maybe", "a")]}}
        good = {"name": "file", "start": "new", "ends": ["new"], "moves": {}}
        for many in range(1, 5):
            for spoilt in itertools.combinations(good, many):
                parts = [bad[part] if part in spoilt else good[part] for part in good]
                self.check(spoilt[0], *parts)
        self.check("ends", "file", "new", ["a", "a"], moves_with(many_states=70))

    def test_sixty_states(self):
        self.assertEqual(len(Kind("k", "s", [], moves_with(many_states=60)).states()), 60)
        self.check("moves", "k", "s", [], moves_with(many_states=61))
        self.assertEqual(len(Kind("k", "s", names(59), {}).states()), 60)
        self.check("moves", "k", "s", names(60), {})
        self.assertEqual(len(Kind("k", "naa", names(60), {}).states()), 60)
        self.check("moves", "k", "nzz", names(60), {})
        self.check("moves", "k", "s", names(600), {})
        outcomes = {("s", "m"): [("yes", name) for name in names(8)]}
        self.assertEqual(len(Kind("k", "s", names(59), outcomes).states()), 60)
        outcomes["s", "n"] = [("yes", "zz")]
        self.check("moves", "k", "s", names(59), outcomes)
        self.check("moves", "k", "s", names(59), {("other", "m"): []})

    def test_eight_methods(self):
        self.assertEqual(len(Kind("k", "s", [], moves_with(many_methods=8)).methods()), 8)
        self.check("moves", "k", "s", [], moves_with(many_methods=9))
        spread = {(state, method): [] for state, method in zip(names(9), names(9))}
        self.check("moves", "k", "s", [], spread)
        del spread["naa", "naa"]
        self.assertEqual(len(Kind("k", "s", [], spread).methods()), 8)

    def test_eight_outcomes(self):
        self.assertEqual(len(Kind("k", "s", [], moves_with(many_outcomes=8))["s", "m"]), 8)
        self.check("moves", "k", "s", [], moves_with(many_outcomes=9))
        self.check("moves", "k", "s", [], moves_with(many_outcomes=10))
        self.check("moves", "k", "s", [], {("s", "m"): [("yes", name) for name in names(9)]})
        self.check("moves", "k", "s", [], {("s", "m"): [("yes", name) for name in names(10000 // 26)] * 26})

    def test_all_bounds_at_once(self):
        states = names(59)
        moves = {}
        for state in states:
            for method in names(8):
                moves[state, method] = [("yes", behind) for behind in states[:8]]
        kind = Kind("abcdefgh", "s", states[::-1], moves)
        self.assertEqual((len(kind.states()), len(kind.methods()), len(kind.moves())), (60, 8, 59 * 8))
        self.assertEqual(kind.ends, tuple(states))


class Great(unittest.TestCase):
    """One outcome of thousands, as a tuple or a list among tuples or lists, is looked at as any other."""

    STATES = names(60)
    METHODS = ["m" + letter for letter in "abcdefgh"]
    WORDS = ["yes", "no", "E", "F", "G", "H", "I", "J"]

    def moves(self, build=tuple):
        return {(state, method): [build((word, self.STATES[(at + k) % 60])) for k, word in enumerate(self.WORDS)]
                for at, state in enumerate(self.STATES) for method in self.METHODS}

    def check(self, moves, expected):
        kind = Kind("great", self.STATES[0], [], moves)
        self.assertEqual(kind.moves(), {key: tuple(sorted(expected[key])) for key in expected})
        self.assertEqual((kind.states(), kind.methods()), (sorted(self.STATES), sorted(self.METHODS)))
        for outcomes in kind.moves().values():
            self.assertEqual({type(outcomes)} | {type(one) for one in outcomes}, {tuple})
        return kind

    def test_lists_and_tuples(self):
        self.check(self.moves(), self.moves())
        self.check(self.moves(list), self.moves())
        mixed = self.moves()
        for at, key in enumerate(mixed):
            mixed[key][at % 8] = list(mixed[key][at % 8])
            mixed[key] = tuple(mixed[key]) if at % 3 else mixed[key]
        self.check(mixed, self.moves())
        self.check(dict(reversed(list(mixed.items()))), self.moves())

    def test_what_is_changed_behind(self):
        for build in (tuple, list):
            moves = self.moves(build)
            kind = self.check(moves, self.moves())
            for row in moves.values():
                if build == list:
                    row[0][0] = "Z"
                row.append(("yes", "other"))
            moves.clear()
            kind.moves().clear()
            kind.states().append("other")
            kind.methods().append("other")
            self.assertEqual(kind, Kind("great", self.STATES[0], [], self.moves()))
            self.assertEqual((kind.states(), kind.methods()), (sorted(self.STATES), sorted(self.METHODS)))

    def test_one_is_spoilt(self):
        strange = no_texts() + rows() + [("yes",), ("yes", "naa", "naa"), ["yes"], [], ("maybe", "naa"), ("yes", "Naa"), "yn"]
        strange += [("yes", thing) for thing in no_texts()[::3]] + [[thing, "naa"] for thing in no_texts()[::3]]
        strange += [("K", "nzz"), ["K", "nzz"]]
        places = [(self.STATES[0], "ma", 0), (self.STATES[31], "md", 4), (self.STATES[59], "mh", 7)]
        for at, thing in enumerate(strange):
            moves = self.moves(list if at % 2 else tuple)
            state, method, index = places[at % 3]
            moves[state, method][index] = thing
            self.refused(moves)

    def test_one_stands_there_twice(self):
        for build in (list, tuple):
            for other in (list, tuple):
                moves = self.moves(build)
                moves[self.STATES[59], "mh"][7] = other(moves[self.STATES[59], "mh"][0])
                self.refused(moves)

    def refused(self, moves):
        with self.assertRaises(BadKind) as caught:
            Kind("great", self.STATES[0], [], moves)
        self.assertEqual(caught.exception.part, "moves")


if __name__ == "__main__":
    unittest.main()
