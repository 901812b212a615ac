"""Small built classes, drawn by a random source that each test makes for itself."""

import random

from drawn import ERRORS, METHODS, Drawer, draw_kind
from rightstate.built import Built

NAMES = ["go", "stop", "main", "enter", "exit", "say"]


class MethodDrawer(Drawer):
    """Draws the bodies of methods."""

    def simple(self, around):
        chance = self.chance
        if chance.random() < (0.25 if around else 0.12):
            return ("say", chance.choice(["yes", "no"]))
        if around and chance.random() < 0.05:
            return ("raise", chance.choice(ERRORS))
        found = ("return",)
        while found[0] == "return":
            found = Drawer.simple(self, around)
        return found


def draw_class(chance, size=6, states=2):
    kinds = [draw_kind(chance, name, states) for name in ["k", "l"][:chance.randint(1, 2)]]
    fields = ["f", "g", "h"][:chance.choice([1, 1, 2, 3])]
    methods = []
    for name in chance.sample(NAMES, chance.randint(1, 4)):
        variables = fields + ["x", "y"][:chance.randint(0, 2)]
        drawer = MethodDrawer(chance, [kind.name for kind in kinds], {}, variables, 0)
        drawer.rest = size
        body = drawer.statements([], size)
        if chance.random() < 0.6:
            # Mostly something is there that can be called.
            field = chance.choice(fields)
            body = (("has", field, (), (("new", field, kinds[0].name),)),) + body
        methods.append((name, body))
    return Built(chance.choice(["c", "class", "k"]), kinds, fields, methods)


def draw_classes(seed, many, sizes=(3, 6, 9), states=2):
    chance = random.Random(seed)
    for _ in range(many):
        yield chance, draw_class(chance, chance.choice(sizes), states)
