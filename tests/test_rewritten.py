"""Sections 3, 6, 7 and 10: programs that are written in another way, of which much stays the same."""

import random
import unittest

from drawn import draw_all
from rightstate.errors import BadProgram
from rightstate.programs import Program
from rightstate.questions import idle
from rightstate.tables import table


def leaves(block):
    """Whether a block leaves or goes on with a loop that is around it."""
    for statement in block:
        if statement[0] in ("leave", "again"):
            return True
        if statement[0] != "loop" and any(leaves(inside) for inside in blocks(statement)):
            return True
    return False


def blocks(statement):
    if statement[0] == "try":
        return [statement[1]] + [block for _, block in statement[2]]
    return [part for part in statement[1:] if isinstance(part, tuple) and (not part or isinstance(part[0], tuple))
            and statement[0] in ("test", "same", "has", "maybe", "loop", "with")]


def rebuilt(statement, change):
    """The statement with all its blocks changed."""
    word = statement[0]
    if word == "try":
        return (word, change(statement[1]), tuple((errors, change(block)) for errors, block in statement[2]))
    count = {"test": 2, "same": 2, "has": 2, "maybe": 2, "loop": 1, "with": 1}.get(word, 0)
    return statement[:len(statement) - count] + tuple(change(block) for block in statement[len(statement) - count:])


class Rewriter:
    """Writes about every third statement in another way that does the same."""

    def __init__(self, chance, ways):
        self.chance, self.ways, self.done = chance, ways, 0

    def block(self, block):
        found = ()
        for statement in block:
            statement = rebuilt(statement, self.block)
            found += self.written(statement) if self.chance.random() < 0.35 else (statement,)
        return found

    def written(self, statement):
        way = self.chance.choice(self.ways)
        self.done += 1
        if way == "exchanged" and statement[0] == "maybe":
            return (("maybe", statement[2], statement[1]),)
        if way == "ahead" and statement[0] == "loop" and not leaves(statement[1]):
            return (("maybe", statement[1], ()), statement)
        if way == "both":
            return (("maybe", (statement,), (statement,)),)
        if way == "try":
            return (("try", (statement,), ()),)
        self.done -= 1
        return (statement,)


def stays(program, guards=()):
    """What a program has in common with all ways to write it."""
    found = table(program, guards=guards)
    whys = sorted({why for _, why in found.wrongs()})
    return found.exits("main", ((), ())), whys, [idle(program, kind.name, guards=guards) for kind in program.kinds()]


class Rewritten(unittest.TestCase):
    def check(self, ways, seed):
        chance = random.Random(seed)
        done = 0
        for _, program, _ in draw_all(seed, 300, sizes=(6, 12, 18)):
            rewriter = Rewriter(chance, ways)
            functions = [(name, params, rewriter.block(body)) for name, params, body in program.functions()]
            try:
                other = Program(program.kinds(), functions)
            except BadProgram:
                continue
            self.assertEqual(stays(other), stays(program))
            self.assertEqual(stays(other, other.points()), stays(program, program.points()))
            done += rewriter.done
        self.assertGreater(done, 60)

    def test_branches_exchanged(self):
        self.check(["exchanged"], 340)

    def test_rounds_ahead_of_loops(self):
        self.check(["ahead"], 341)

    def test_in_both_branches(self):
        self.check(["both"], 342)

    def test_in_a_try_without_handlers(self):
        self.check(["try"], 343)

    def test_all_of_them(self):
        self.check(["exchanged", "ahead", "both", "try"], 344)


if __name__ == "__main__":
    unittest.main()
