"""Section 12: stand-ins."""

import itertools
import random
import time
import unittest

from drawn import METHODS, Drawer, draw_kind
from rightstate.errors import BadKind, Parted, TooLong, TooMany
from rightstate.kinds import Kind, after, allowed
from rightstate.programs import Program
from rightstate.standins import common, pairing, pairing_fault, parted, parting_program, stand_ins
from rightstate.tables import table
from samples import make_file, no_names, no_rows, rows
from sides import common_parts, fair_pairs, fault, parts
from things import BOX, LOCK, PLAIN

CALM = Kind("file", "new", ["new", "shut"], {
    ("new", "open"): [("no", "open")], ("open", "read"): [("yes", "open"), ("no", "last")],
    ("open", "close"): [("no", "shut")], ("last", "close"): [("no", "shut")]})
FILE = make_file()


def varied(chance, kind):
    """A kind that differs in one or two things; mostly it may stand in for the kind, or the kind for it."""
    moves, ends = kind.moves(), list(kind.ends)
    for _ in range(chance.choice([1, 1, 2, 3])):
        what = chance.choice(["less", "less", "more", "word", "end", "bar"])
        key = chance.choice(sorted(moves)) if moves else None
        if what == "less" and key and moves[key]:
            moves[key] = [one for one in moves[key] if one != chance.choice(moves[key])]
        elif what == "more":
            moves.setdefault((chance.choice(kind.states()), chance.choice(METHODS)), [(chance.choice(["yes", "E"]), chance.choice(kind.states()))])
        elif what == "word" and key:
            extra = (chance.choice(["yes", "no", "E", "F"]), chance.choice(kind.states()))
            moves[key] = sorted(set(list(moves[key]) + [extra]))
        elif what == "end":
            state = chance.choice(kind.states())
            ends = [one for one in ends if one != state] if state in ends else ends + [state]
        elif key:
            del moves[key]
    return Kind(chance.choice([kind.name, "other"]), kind.start, ends, moves)


def draw_pairs(seed, many, states=4):
    chance = random.Random(seed)
    for _ in range(many):
        one = draw_kind(chance, "k", states)
        yield chance, one, varied(chance, one) if chance.random() < 0.8 else draw_kind(chance, "l", states)


def reversed_counter(width):
    """A kind of which the histories of new ones lead to some 2 ** width sets of states."""
    states = ["s" + letter for letter in "abcdefghijklmnop"[:width + 1]]
    moves = {(states[0], "m"): [("yes", states[0]), ("yes", states[1]), ("no", states[0])]}
    for one, other in zip(states[1:], states[2:]):
        moves[one, "m"] = [("yes", other), ("no", other)]
    moves[states[-1], "m"] = []
    return Kind("wide", states[0], states, moves)


def row_of(many, name="row"):
    """A kind with so many states, one behind the other, each with a method of its own word."""
    states = [a + b for a in "abc" for b in "abcdefghijklmnopqrst"][:many]
    return Kind(name, states[0], states, {(one, "go"): [("yes", other)] for one, other in zip(states, states[1:])})


class Written(unittest.TestCase):
    def test_the_example_of_the_document(self):
        self.assertIsNone(parted(FILE, CALM))
        self.assertEqual(parted(CALM, FILE), ((), ("word", "open", "LOST")))
        self.assertEqual(pairing(FILE, CALM), [((one,), (one,)) for one in ("last", "new", "open", "shut")])
        both = common(FILE, CALM, "both")
        self.assertEqual((both["a", "open"], both.ends, both.name), ((("LOST", "b"), ("no", "c")), ("a", "b", "e", "g"), "both"))
        self.assertEqual(stand_ins([FILE, CALM]), [(0, 1)])
        self.assertEqual(stand_ins((CALM, FILE, CALM)), [(0, 2), (1, 0), (1, 2), (2, 0)])
        self.assertEqual((stand_ins([]), stand_ins([FILE])), ([], []))

    def test_each_for_itself(self):
        for kind in (FILE, CALM, BOX, LOCK, PLAIN):
            self.assertIsNone(parted(kind, kind))
            self.assertIsNone(parting_program(kind, kind))
            self.assertIsNone(pairing_fault(kind, kind, pairing(kind, kind)))
            self.assertIsNone(parted(kind, kind.renamed("other")))

    def test_why(self):
        one = Kind("k", "s", ["s", "t"], {("s", "m"): [("yes", "t")], ("s", "n"): [("no", "s")], ("t", "m"): []})
        self.assertEqual(parted(one, Kind("k", "s", [], {})), ((), ("barred", "m")))
        self.assertEqual(parted(one, Kind("k", "s", [], {("s", "m"): [], ("s", "o"): []})), ((), ("barred", "n")))
        self.assertEqual(parted(one, Kind("k", "s", [], {("s", "m"): [("no", "s"), ("E", "s")], ("s", "n"): [("E", "s")]})),
                         ((), ("word", "m", "E")))
        self.assertEqual(parted(one, Kind("k", "s", [], {("s", "m"): [], ("s", "n"): [("yes", "s"), ("no", "s")]})),
                         ((), ("word", "n", "yes")))
        self.assertEqual(parted(one, Kind("k", "s", [], {("s", "m"): [], ("s", "n"): []})), ((), ("dropped",)))
        self.assertIsNone(parted(one, Kind("k", "s", ["s"], {("s", "m"): [], ("s", "n"): []})))
        self.assertEqual(parted(one, Kind("k", "s", ["s"], {("s", "m"): [("yes", "u")], ("s", "n"): []})),
                         ((("m", "yes"),), ("barred", "m")))
        self.assertEqual(parted(one, Kind("k", "s", ["s"], {("s", "m"): [("yes", "u")], ("s", "n"): [], ("u", "m"): []})),
                         ((("m", "yes"),), ("dropped",)))

    def test_what_a_kind_does_not_answer_need_not_be_met(self):
        # Behind ("m", "yes") the other one would be barred, but it never answers so.
        one = Kind("k", "s", [], {("s", "m"): [("yes", "t"), ("no", "s")], ("t", "n"): []})
        self.assertIsNone(parted(one, Kind("k", "s", [], {("s", "m"): [("no", "s")]})))
        # A method that is barred in one of two states may not be called behind this history.
        one = Kind("k", "s", [], {("s", "m"): [("yes", "t"), ("yes", "u")], ("t", "n"): []})
        self.assertIsNone(parted(one, Kind("k", "s", [], {("s", "m"): [("yes", "s")]})))

    def test_the_first_of_the_shortest_histories(self):
        ways = {("s", "m"): [("yes", "t"), ("no", "t"), ("E", "t")], ("s", "a"): [("yes", "u")], ("t", "n"): [("yes", "t")]}
        one = Kind("k", "s", ["s", "u"], ways)
        other = Kind("k", "s", ["s", "u"], {key: row for key, row in ways.items() if key[0] == "s"})
        self.assertEqual(parted(one, other), ((("m", "E"),), ("barred", "n")))
        late = Kind("k", "s", ["s"], {key: row for key, row in ways.items() if key[0] == "s"})
        self.assertEqual(parted(one, late), ((("a", "yes"),), ("dropped",)))

    def test_parted_is_raised(self):
        with self.assertRaises(Parted) as caught:
            pairing(CALM, FILE)
        self.assertEqual((caught.exception.history, caught.exception.why), ((), ("word", "open", "LOST")))

    def test_parting_programs(self):
        for length in (0, 1, 5, 11, 12, 13, 20):
            one, other = row_of(length + 2), row_of(length + 1)
            self.assertEqual(parted(one, other), ((("go", "yes"),) * length, ("barred", "go")))
            if length <= 12:
                self.check_parting(one, other)
            else:
                with self.assertRaises(TooLong) as caught:
                    parting_program(one, other)
                self.assertEqual(caught.exception.many, length)

    def check_parting(self, one, other):
        program = parting_program(one, other)
        self.assertIsInstance(program, Program)
        self.assertEqual((program.kinds(), [name for name, _, _ in program.functions()]), ([one], ["main"]))
        self.assertTrue(table(program).is_safe())
        self.assertFalse(table(program.replaced(other.renamed(one.name))).is_safe())

    def test_parting_programs_of_all_sorts(self):
        for word in ("yes", "no", "E", "GUARD"):
            one = Kind("k", "s", ["t"], {("s", "m"): [("yes", "t"), ("no", "t"), ("E", "t"), ("F", "t"), ("GUARD", "t")], ("t", "n"): []})
            moves = one.moves()
            moves["s", "m"] = [(told, "u" if told == word else "t") for told, _ in moves["s", "m"]]
            self.check_parting(one, Kind("l", "s", ["t"], moves))
            self.check_parting(one, Kind("l", "s", ["t", "u"], moves))
            self.check_parting(one, Kind("l", "s", ["t"], dict(moves, **{}) | {("u", "n"): []}))
            self.check_parting(one, Kind("l", "s", ["t", "u"], dict(moves) | {("u", "n"): [(word, "u")]}))
        great = Kind("k", "s", [], {(a, "m"): [(word, b) for b in "stuv" for word in ("yes", "no")] for a in "stuv"})
        less = Kind("k", "s", [], {("s", "m"): [("E", "s")]})
        self.check_parting(great, less)

    def test_pairing_faults(self):
        right = pairing(FILE, CALM)
        for pairs in (right, right[::-1], tuple(right), [[list(one), list(other)] for one, other in right], right + right,
                      right + [(("last", "open"), ("open",))], [(("new", "shut"), ("shut",))] + right):
            self.assertEqual(pairing_fault(FILE, CALM, pairs), fault(FILE, CALM, pairs))
        self.assertIsNone(pairing_fault(FILE, CALM, right + right[:2]))
        for thing in no_rows():
            self.assertEqual(pairing_fault(FILE, CALM, thing), ("pairs", -1))
        for thing in no_rows() + rows() + [("new",), ("new", "new"), (("new",), ("new",), ("new",)), ((), ("new",)), (("new",), ()),
                                           (("new", "new"), ("new",)), (("open", "new"), ("new",)), (("new",), ("lost",)), ([["new"]], ["new"])]:
            self.assertEqual(pairing_fault(FILE, CALM, right + [thing]), ("pairs", 4))
            self.assertEqual(pairing_fault(FILE, CALM, [thing, 1]), ("pairs", 0))
            if thing != ("new",):
                self.assertEqual(pairing_fault(FILE, CALM, [(thing, ("new",))]), ("pairs", 0))
        self.assertEqual(pairing_fault(FILE, CALM, []), ("begin",))
        self.assertEqual(pairing_fault(FILE, CALM, right[:1] + right[2:]), ("begin",))
        self.assertEqual(pairing_fault(FILE, CALM, right[1:2]), ("step", 0, "open", "no"))
        self.assertEqual(pairing_fault(FILE, CALM, right[1:]), ("step", 1, "read", "no"))
        self.assertEqual(pairing_fault(FILE, CALM, [(("open",), ("new",))] + right), ("barred", 0, "close"))
        self.assertEqual(pairing_fault(CALM, FILE, right), ("word", 1, "open", "LOST"))
        self.assertEqual(pairing_fault(FILE, CALM, right + [(("shut",), ("new", "open"))]), ("dropped", 4))
        self.assertEqual(pairing_fault(FILE, CALM, right + [(("last", "new"), ("open",))]), None)

    def test_stand_in_for_all(self):
        kinds = [CALM, FILE, PLAIN, BOX, LOCK, CALM.renamed("calm")]
        found = stand_ins(tuple(kinds))
        self.assertEqual(found, [(i, j) for i, j in itertools.permutations(range(6), 2) if parts(kinds[i], kinds[j]) is None])
        self.assertIs(type(found), list)


class Common(unittest.TestCase):
    def check(self, one, other):
        start, ends, moves = common_parts(one, other)
        self.assertEqual(common(one, other, "both"), Kind("both", start, ends, moves))

    def test_written(self):
        self.check(FILE, CALM)
        self.check(BOX, LOCK)
        self.assertEqual(common(PLAIN, PLAIN, "plain"), Kind("plain", "a", ["a"], {}))
        self.assertEqual(common(BOX, LOCK, "k").moves(), {})
        one = Kind("k", "s", [], {("s", "m"): []})
        self.assertEqual(common(one, one, "k").moves(), {("a", "m"): ()})

    def test_names(self):
        for thing in no_names():
            for one, other in ((FILE, CALM), (row_of(60), sixty(61))):
                with self.assertRaises(BadKind) as caught:
                    common(one, other, thing)
                self.assertEqual(caught.exception.part, "name")

    def test_sixty_states(self):
        found = common(row_of(60), row_of(60), "k")
        self.assertEqual(len(found.states()), 60)
        self.assertEqual(found["bg", "go"], (("yes", "bh"),))
        self.assertEqual((found["z", "go"], found["az", "go"], found["bh", "go"]), ((("yes", "aa"),), (("yes", "ba"),), None))
        self.check(sixty(60), sixty(60))
        for one, other in ((sixty(61), sixty(61)), (reversed_counter(11), reversed_counter(11)), (reversed_counter(13), PLAIN)):
            if other != PLAIN:
                self.check_too_many(60, one, other)
        self.assertEqual(common(reversed_counter(13), PLAIN, "k").moves(), {})

    def check_too_many(self, many, one, other):
        with self.assertRaises(TooMany) as caught:
            common(one, other, "k")
        self.assertEqual(caught.exception.many, many)

    def test_eight_methods_and_words(self):
        letters = "abcdefgh"
        one = Kind("k", "s", [], {("s", letter): [] for letter in letters})
        ways = {("s", letter): [] for letter in letters[1:] + "i"}
        self.check(one, Kind("k", "s", [], ways))
        # Four methods in the one state, five in the other: all nine have moves, but none has nine words.
        moves = {("s", letter): [("yes", "t")] for letter in "abcd"}
        moves.update({("t", letter): [] for letter in "efgh"})
        self.check(Kind("k", "s", [], moves), Kind("k", "s", [], moves))
        other = dict(moves)
        other["t", "i"] = other.pop(("t", "h"))
        words = ["yes", "no", "A", "B", "C", "D", "E", "F"]
        one = Kind("k", "s", [], {("s", "m"): [(word, "s") for word in words]})
        self.check(one, one)
        self.check(one, Kind("k", "s", [], {("s", "m"): [("F", "s")]}))
        self.check_too_many(8, one, Kind("k", "s", [], {("s", "m"): [("G", "s")]}))

    def test_nine_methods(self):
        # Behind "no" the one is alone, behind "yes" the other: so each may call all methods of its own there.
        one = Kind("k", "s", [], dict([(("s", "a"), [("no", "t")])] + [(("t", letter), []) for letter in "bcdefgh"]))
        for letters, many in (("bcdefgh", None), ("bcdefgi", 8)):
            other = Kind("k", "s", [], dict([(("s", "a"), [("yes", "t")])] + [(("t", letter), []) for letter in letters]))
            if many is None:
                self.check(one, other)
            else:
                self.check_too_many(8, one, other)

    def test_too_many_states_come_ahead_of_too_many_words(self):
        words = ["yes", "no", "A", "B", "C", "D", "E", "F"]
        moves = reversed_counter(9).moves()
        moves["sa", "n"] = [(word, "sa") for word in words]
        one = Kind("k", "sa", [], moves)
        moves["sa", "n"] = [(word + "X" if word.isupper() else word, "sa") for word in words]
        other = Kind("k", "sa", [], moves)
        self.check_too_many(60, one, other)

    def test_drawn(self):
        made = 0
        for _, one, other in draw_pairs(320, 400):
            start, ends, moves = common_parts(one, other)
            methods = {method for _, method in moves}
            if len({to for row in moves.values() for _, to in row} | {start}) > 60:
                self.check_too_many(60, one, other)
            elif len(methods) <= 8:
                made += 1
                both = common(one, other, "both")
                self.assertEqual(both, Kind("both", start, ends, moves))
                self.assertIsNone(parted(both, one))
                self.assertIsNone(parted(both, other))
        self.assertGreater(made, 300)

    def test_it_stands_in_for_all_for_which_both_may(self):
        seen = 0
        for chance, one, other in draw_pairs(321, 500, 3):
            third = varied(chance, one)
            if parted(third, one) is None and parted(third, other) is None:
                seen += 1
                self.assertIsNone(parted(third, common(one, other, "both")))
        self.assertGreater(seen, 30)


def sixty(many):
    """A kind of which there are so many pairs with itself: sixty single states, and one pair more."""
    kind = row_of(60)
    moves = kind.moves()
    if many > 60:
        moves[kind.states()[0], "go"] = [("yes", kind.states()[1]), ("no", kind.states()[0]), ("no", kind.states()[1])]
    return Kind("k", kind.start, [], moves)


def counted(many, ends=True):
    """A kind of which the fair histories with itself have just so many pairs, from 3991 on."""
    # Behind a chain of states an object can be in one state of each of three cycles, each of which has its own word.
    chain = ["s" + letter for letter in "abcdefghijkl"[:many - 3990]]
    cycles = [[name + letter for letter in "abcdefghijklmnopqrs"[:size]] for name, size in (("a", 14), ("b", 15), ("c", 19))]
    moves = {(one, "m"): [("yes", other)] for one, other in zip(chain, chain[1:])}
    moves[chain[-1], "m"] = [("yes", cycle[0]) for cycle in cycles]
    for word, cycle in zip("ABC", cycles):
        for at, one in enumerate(cycle):
            moves[one, "m"] = [(told, cycle[(at + (told == word)) % len(cycle)]) for told in "ABC"]
    states = chain + sum(cycles, [])
    return Kind("great", chain[0], states if ends else [], moves)


class Bounds(unittest.TestCase):
    def test_four_thousand_pairs(self):
        one, other = counted(4000), counted(4001)
        begun = time.perf_counter()
        found = pairing(one, one)
        self.assertEqual(len(found), 4000)
        self.assertIsNone(parted(one, one))
        self.assertIsNone(pairing_fault(one, one, found))
        self.assertEqual(pairing_fault(one, one, found[:2000] + found[2001:])[0], "step")
        self.assertIsNone(parting_program(one, one))
        self.assertEqual(stand_ins([one, one]), [(0, 1), (1, 0)])
        # Far more than it takes, as machines may be slow.
        self.assertLess(time.perf_counter() - begun, 10)
        for ask, given in ((parted, ()), (pairing, ()), (pairing_fault, (7,)), (pairing_fault, ([],)), (parting_program, ())):
            with self.assertRaises(TooMany) as caught:
                ask(other, other, *given)
            self.assertEqual(caught.exception.many, 4000)
        self.assertRaises(TooMany, stand_ins, [FILE, other, other])
        self.assertEqual(stand_ins([FILE, other]), [])

    def test_too_many_pairs_that_are_not_good(self):
        for many in (4000, 4001):
            one, bad = counted(many), counted(many, False)
            if many == 4000:
                self.assertEqual(parted(one, bad), ((), ("dropped",)))
                self.assertRaises(Parted, pairing, one, bad)
                self.assertEqual(pairing_fault(one, bad, 7), ("pairs", -1))
                self.assertIsNotNone(parting_program(one, bad))
                self.assertEqual(stand_ins([one, bad]), [(1, 0)])
            else:
                for ask, given in ((parted, ()), (pairing, ()), (pairing_fault, (7,)), (parting_program, ())):
                    self.assertRaises(TooMany, ask, one, bad, *given)
                self.assertRaises(TooMany, stand_ins, [one, bad])

    def test_histories_that_one_of_the_kinds_cannot_have_are_not_counted(self):
        one = counted(4000)
        moves = one.moves()
        moves["sa", "m"] = [("yes", "sb"), ("Z", "zz")]
        more = Kind("great", "sa", one.ends + ("zz",), moves)
        self.assertEqual(parted(one, more), ((), ("word", "m", "Z")))
        self.assertEqual(pairing(more, one), pairing(one, one))
        self.assertRaises(TooMany, parted, more, more)

    def test_too_many_pairs_come_ahead_of_too_long_histories(self):
        moves = counted(4001).moves()
        moves["aa", "n"] = []
        one = Kind("great", "sa", [], moves)
        moves["ba", "n"] = moves["ca", "n"] = []
        self.assertRaises(TooMany, parting_program, Kind("great", "sa", [], moves), one)
        moves["sk", "n"] = []
        other = Kind("k", "sa", [], {key: row for key, row in moves.items() if key != ("sk", "n")})
        self.assertRaises(TooMany, parting_program, Kind("great", "sa", [], moves), other)

    def test_many_states_methods_and_words(self):
        states = [a + b for a in "abc" for b in "abcdefghijklmnopqrst"]
        words = ["yes", "no", "A", "B", "C", "D", "E", "F"]
        moves = {(one, "m" + letter): [(word, states[(7 * at + 11 * number + len(letter)) % 60]) for number, word in enumerate(words)]
                 for at, one in enumerate(states) for letter in "abcdefgh"}
        one = Kind("k", "aa", states, moves)
        self.assertEqual(pairing(one, one), sorted(((state,), (state,)) for state in after_all(one)))
        self.assertIsNone(pairing_fault(one, one, pairing(one, one)))


def after_all(kind):
    """All states that an object of a kind can come to."""
    found = [kind.start]
    for state in found:
        for method in kind.methods():
            found += sorted({behind for _, behind in kind[state, method]} - set(found))
    return found


class Drawn(unittest.TestCase):
    def test_by_the_words_of_the_document(self):
        seen = {None: 0, "barred": 0, "word": 0, "dropped": 0}
        for chance, one, other in draw_pairs(330, 900):
            found = parts(one, other)
            self.assertEqual(parted(one, other), found)
            seen[found and found[1][0]] += 1
            pairs = sorted(fair_pairs(one, other))
            if found is None:
                self.assertEqual(pairing(one, other), pairs)
                self.assertIsNone(parting_program(one, other))
            else:
                with self.assertRaises(Parted) as caught:
                    pairing(one, other)
                self.assertEqual((caught.exception.history, caught.exception.why), found)
                program = parting_program(one, other)
                self.assertTrue(table(program).is_safe())
                self.assertFalse(table(program.replaced(other.renamed(one.name))).is_safe())
            self.check_faults(chance, one, other, pairs)
        self.assertGreater(min(seen.values()), 30, seen)

    def check_faults(self, chance, one, other, pairs):
        self.assertEqual(pairing_fault(one, other, pairs), fault(one, other, pairs))
        for _ in range(3):
            tried = chance.sample(pairs, len(pairs))
            if chance.random() < 0.5:
                tried.pop()
            for _ in range(chance.randint(0, 2)):
                subsets = [tuple(sorted(chance.sample(kind.states(), chance.randint(0 if chance.random() < 0.1 else 1, len(kind.states())))))
                           for kind in (one, other)]
                tried.insert(chance.randint(0, len(tried)), tuple(subsets))
            self.assertEqual(pairing_fault(one, other, tried), fault(one, other, tried))

    def test_in_all_programs(self):
        safe = 0
        for chance, one, other in draw_pairs(331, 500):
            if parted(one, other) is None:
                for _ in range(4):
                    drawer = Drawer(chance, ["k"], {}, ["x", "y"], 0)
                    program = Program([one], [("main", (), drawer.body(6, 0.9))])
                    if table(program).is_safe():
                        safe += 1
                        self.assertTrue(table(program.replaced(other.renamed("k"))).is_safe())
        self.assertGreater(safe, 150)

    def test_chains(self):
        seen = 0
        for chance, one, other in draw_pairs(332, 600, 3):
            third = varied(chance, other)
            if parted(one, other) is None and parted(other, third) is None:
                seen += 1
                self.assertIsNone(parted(one, third))
        self.assertGreater(seen, 30)

    def test_some_of_many(self):
        for chance, one, other in draw_pairs(333, 60, 3):
            kinds = [one, other] + [varied(chance, one) for _ in range(chance.randint(0, 4))]
            expected = [(i, j) for i, j in itertools.permutations(range(len(kinds)), 2) if parts(kinds[i], kinds[j]) is None]
            self.assertEqual(stand_ins(kinds), expected)


class Told(unittest.TestCase):
    def test_what_is_told_may_be_changed(self):
        kinds = [FILE, CALM]
        for ask, given in ((pairing, (FILE, CALM)), (stand_ins, (kinds,))):
            kept = list(ask(*given))
            ask(*given).append(None)
            self.assertEqual(ask(*given), kept)
        pairs = [[["new"], ["new"]]]
        pairing_fault(FILE, CALM, pairs)
        self.assertEqual((pairs, kinds), ([[["new"], ["new"]]], [FILE, CALM]))

    def test_tuples_at_every_depth(self):
        history, why = parted(row_of(3), row_of(2))
        self.assertEqual((history, why), ((("go", "yes"),), ("barred", "go")))
        self.assertEqual({type(one) for one in (history, why, history[0])}, {tuple})
        self.assertEqual({type(part) for pair in pairing(FILE, CALM) for part in (pair,) + pair}, {tuple})
        self.assertEqual(after(FILE, history), [])
        self.assertEqual(allowed(row_of(3), history), ["go"])


if __name__ == "__main__":
    unittest.main()
