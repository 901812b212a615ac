"""Calls of built classes as section 13 tells them, word by word, with the steps of reference.py."""

from reference import Active, Places, Run, blocks, number_objects

NAMED = {"new": (1,), "copy": (1, 2), "none": (1,), "call": (1,), "test": (1,), "same": (1, 2), "has": (1,), "with": (1,)}


def variables_of(fields, body):
    found = list(fields)

    def look(block):
        for statement in block:
            found.extend(statement[at] for at in NAMED.get(statement[0], ()))
            for inside in blocks(statement):
                look(inside)
    look(body)
    return list(dict.fromkeys(found))


class Methods:
    """The methods of a built class as if they were the functions of a program."""

    def __init__(self, built):
        self.built = built

    def functions(self):
        return [(method, tuple(self.built.fields()), body) for method, body in self.built.methods()]


class Object(Run):
    """An object of a built class; between its calls no activation is there."""

    def __init__(self, built):
        self.built, self.program, self.guards = built, Methods(built), set()
        self.places = Places(self.program)
        self.kinds = {kind.name: kind for kind in built.kinds()}
        self.fields = {field: None for field in built.fields()}
        self.objects, self.gone, self.active = [], set(), []
        self.over, self.answer, self.steps, self.calls = None, None, 0, []

    def twin(self):
        twin = Object(self.built)
        twin.fields, twin.objects, twin.gone = dict(self.fields), list(self.objects), set(self.gone)
        twin.active, twin.over, twin.answer, twin.steps = [one.twin() for one in self.active], self.over, self.answer, self.steps
        return twin

    def begin(self, method):
        number = [name for name, _ in self.built.methods()].index(method)
        body = self.built.methods()[number][1]
        held = {variable: None for variable in variables_of(self.built.fields(), body)}
        held.update(self.fields)
        point = (number, 0) if len(body) == 0 else self.places.come_to((number, 0))
        self.active.append(Active(number, ((), ()), [], held, point))
        self.over, self.answer = None, None

    def plain(self, option):
        statement = None if self.word() == "END" else self.places.statement(self.active[-1].point)
        if statement is not None and statement[0] == "say":
            top = self.active[-1]
            top.point, top.pending = self.places.leave(top.point, ("say", statement[1]))
        else:
            Run.plain(self, option)

    def end(self):
        top = self.active.pop()
        self.fields = {field: top.values[field] for field in self.fields}
        self.over, self.answer = ("ended",), top.pending[1] if top.pending else "no"

    def dropped(self):
        held = set() if self.active else set(self.fields.values())
        for one in self.active:
            held.update(one.values.values(), one.holds)
        lost = [one for one in range(len(self.objects)) if one not in held and one not in self.gone]
        self.gone.update(lost)
        return [self.objects[one] for one in lost]

    def whole(self):
        """All by which calls that stand alike can be told apart later."""
        return Run.whole(self) + (self.active[-1].pending,)

    def shape(self):
        numbers = {}
        number_objects(numbers, self.fields.values())
        return (tuple(numbers.get(value, 0) for value in self.fields.values()), tuple(self.objects[one] for one in numbers))


def play(built, methods, choices, most=500):
    """What played tells."""
    one = Object(built)
    answers, used = [], 0
    for index, method in enumerate(methods):
        one.begin(method)
        while one.over is None:
            many = one.options()
            if one.steps == most:
                return answers, ("spent",)
            if many > 1 and used == len(choices):
                return answers, ("open",)
            option = 0
            if many > 1:
                option = choices[used] % many
                used += 1
            one.step(option)
        if one.over[0] == "wrong":
            return answers, ("wrong", index) + one.over[1:]
        if one.over[0] == "waits":
            return answers, ("waits",)
        answers.append((method, one.answer, one.shape()))
    return answers, ("ended",)


def answers_of(one, method, most):
    """(wrong, {(answer, shape): the object behind it}, rows) of all calls of a method of an object.

    None if there are more than so many rows.
    """
    first = one.twin()
    first.begin(method)
    seen, line, found, wrong = {first.whole()}, [first], {}, False
    for run in line:
        for option in range(run.options()):
            twin = run.twin()
            twin.step(option)
            if twin.over is None:
                if twin.whole() not in seen:
                    seen.add(twin.whole())
                    if len(seen) > most:
                        return None
                    line.append(twin)
            elif twin.over[0] == "wrong":
                wrong = True
            elif twin.over[0] == "ended":
                found.setdefault((twin.answer, twin.shape()), twin)
    return wrong, found, len(seen)


def names():
    letters = "abcdefghijklmnopqrstuvwxyz"
    return list(letters) + [a + b for a in letters for b in letters]


def infer(built, most=4000):
    """(moves, ends, shapes) of the kind of a built class; or the bound that is passed first."""
    first = Object(built)
    named, line = {first.shape(): "a"}, [first]
    moves, ends = {}, []
    for one in line:
        state = named[one.shape()]
        if all(told in one.kinds[kind].ends for kind, told in one.shape()[1]):
            ends.append(state)
        for method in sorted(method for method, _ in built.methods()):
            told = answers_of(one, method, most)
            if told is None:
                return 4000
            wrong, found, _ = told
            if wrong:
                continue
            if len(found) > 8:
                return 8
            for outcome in sorted(found):
                if outcome[1] not in named:
                    if len(named) == 60:
                        return 60
                    named[outcome[1]] = names()[len(named)]
                    line.append(found[outcome])
            moves[state, method] = tuple(sorted((word, named[shape]) for word, shape in found))
    return moves, tuple(sorted(ends)), {state: shape for shape, state in named.items()}
