"""Small programs, drawn by a random source that each test makes for itself."""

import random

from rightstate.kinds import Kind
from rightstate.programs import Program

WORDS = ["yes", "no", "E", "F"]
METHODS = ["m", "n", "enter", "exit"]
ERRORS = ["E", "F", "GUARD"]


def draw_kind(chance, name, states=3):
    """A kind of which most methods are allowed in most states."""
    barred, ended = chance.choice([0, 0, 0.1, 0.3]), chance.choice([1, 1, 0.9, 0.6])
    names = ["s", "t", "u", "v"][:chance.randint(1, states)]
    moves = {}
    for state in names:
        for method in METHODS:
            if chance.random() >= barred:
                # Mostly without errors, and mostly with an answer, so that runs go on.
                words = WORDS if chance.random() < 0.3 else ["yes", "no"]
                every = [(word, behind) for word in words for behind in names]
                many = chance.choice([0] + [1] * 10 + [2] * 5 + [3] * 2)
                moves[state, method] = chance.sample(every, min(many, len(every)))
    ends = [state for state in names if chance.random() < ended]
    return Kind(name, names[0], ends, moves)


class Drawer:
    """Draws the bodies of functions."""

    def __init__(self, chance, kinds, counts, variables, fond):
        self.chance, self.kinds, self.counts, self.variables, self.fond = chance, kinds, counts, variables, fond
        self.rest = 0

    def variable(self):
        return self.chance.choice(self.variables)

    def simple(self, around):
        chance = self.chance
        x, y = self.variable(), self.variable()
        found = [("new", x, chance.choice(self.kinds)), ("copy", x, y), ("copy", y, x)] * 2 + [("none", x)]
        found += [("call", x, chance.choice(METHODS)), ("call", y, chance.choice(METHODS))] * 3
        # What leaves a body altogether stands mostly in blocks, so that much comes behind it.
        if around or chance.random() < 0.2:
            found += [("return", x), ("return", y), ("return", None), ("raise", chance.choice(ERRORS))]
        if around and chance.random() < 0.2:
            found += [("wait",)] * 2
        if "loop" in around:
            found += [("leave",), ("again",)] * 2
        if self.counts:
            name = chance.choice(sorted(self.counts))
            args = tuple([self.variable() for _ in range(self.counts[name])])
            found += [("run", chance.choice([x, None]), name, args)] * self.fond
        return chance.choice(found)

    def statement(self, around):
        chance = self.chance
        if chance.random() < 0.55 or len(around) >= 4:
            return self.simple(around)
        word = chance.choice(["test", "same", "has", "maybe", "loop", "try", "with", "with", "try"])
        if word == "with" and around.count("with") == 2:
            return self.simple(around)
        inside = around + [word]
        x, y = self.variable(), self.variable()
        if word == "test":
            return (word, x, chance.choice(METHODS), self.block(inside), self.block(inside))
        if word == "same":
            return (word, x, y, self.block(inside), self.block(inside))
        if word == "has":
            return (word, x, self.block(inside), self.block(inside))
        if word == "maybe":
            return (word, self.block(inside), self.block(inside))
        if word == "loop":
            return (word, self.block(inside))
        if word == "with":
            return (word, x, self.block(inside))
        handlers = [(tuple(chance.sample(ERRORS, chance.randint(0, 2))), self.block(inside))
                    for _ in range(chance.randint(0, 2))]
        return (word, self.block(inside), tuple(handlers))

    def block(self, around):
        return self.statements(around, self.chance.choice([0, 1, 1, 2, 3]))

    def statements(self, around, many):
        found = []
        while self.rest > 0 and many > 0:
            self.rest -= 1
            many -= 1
            found.append(self.statement(around))
        return tuple(found)

    def body(self, size, made):
        """A body; made is how likely each variable holds a new object at first."""
        self.rest = size
        found = tuple([("new", variable, self.chance.choice(self.kinds)) for variable in self.variables
                       if self.chance.random() < made])
        return found + self.statements([], size)


def draw_program(chance, size=8, fond=2, recursive=True):
    """A program of one to three functions; fond is how often functions are run."""
    kinds = [draw_kind(chance, name) for name in ["k", "l"][:chance.randint(1, 2)]]
    counts = {name: chance.randint(0, 3) for name in ["f", "g"][:chance.choice([0, 1, 2, 2])]}
    functions = []
    for name in ["main"] + sorted(counts):
        params = ("a", "b", "c")[:counts.get(name, 0)]
        variables = list(params) + ["x", "y", "z"][:chance.randint(1, 2 if params else 3)]
        others = {other: counts[other] for other in counts if recursive or name == "main" or other > name}
        drawer = Drawer(chance, [kind.name for kind in kinds], others, variables, fond)
        body = drawer.body(chance.randint(size // 3, size), 0.95 if name == "main" else 0.2)
        functions.append((name, params, body))
    chance.shuffle(functions)
    return Program(kinds, functions)


def draw_guards(chance, program):
    points = program.points()
    if chance.random() < 0.3:
        return points
    return chance.sample(points, chance.randint(0, min(4, len(points))))


def draw_all(seed, many, sizes=(5, 15, 25), recursive=True):
    """Tells (chance, program, guards) of so many programs; half of them have no guards."""
    chance = random.Random(seed)
    for _ in range(many):
        program = draw_program(chance, chance.choice(sizes), recursive=recursive)
        yield chance, program, draw_guards(chance, program) if chance.random() < 0.5 else []


def widened(chance, program):
    """The program with one of its kinds in which all is allowed: what was barred leaves all as it is."""
    kind = chance.choice(program.kinds())
    moves = kind.moves()
    for state in kind.states():
        for method in kind.methods() + METHODS:
            moves.setdefault((state, method), [("yes", state)])
    return program.replaced(Kind(kind.name, kind.start, kind.states(), moves))
