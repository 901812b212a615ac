"""Runs as section 6 of the document tells them, word by word and without a thought of time.

Nothing here comes from the package but what Program and Kind tell; places are read as the document writes them.
"""

FORMS_WITH_BLOCKS = {"test": (3, 4), "same": (3, 4), "has": (2, 3), "maybe": (1, 2), "loop": (1,), "with": (2,)}


def blocks(statement):
    if statement[0] == "try":
        return [statement[1]] + [block for _, block in statement[2]]
    return [statement[at] for at in FORMS_WITH_BLOCKS.get(statement[0], ())]


class Places:
    """Where one comes to from a place."""

    def __init__(self, program):
        self.functions = program.functions()

    def end(self, place):
        return (place[0], len(self.functions[place[0]][2]))

    def block(self, place):
        """The block in which a statement stands."""
        if len(place) == 2:
            return self.functions[place[0]][2]
        return blocks(self.statement(place[:-2]))[place[-2]]

    def statement(self, place):
        return self.block(place)[place[-1]]

    def is_exit(self, place):
        return len(place) % 2 == 1

    def come_to(self, place):
        return self.go_to(place, 0) if self.statement(place)[0] == "try" else place

    def go_to(self, place, number):
        if len(blocks(self.statement(place))[number]) == 0:
            return self.behind_end(place, number)
        return self.come_to(place + (number, 0))

    def behind_end(self, place, number):
        word = self.statement(place)[0]
        if word == "loop":
            return place
        return place + (1,) if word == "with" else self.go_on(place)

    def go_on(self, place):
        if place[-1] + 1 < len(self.block(place)):
            return self.come_to(place[:-1] + (place[-1] + 1,))
        return self.end(place) if len(place) == 2 else self.behind_end(place[:-2], place[-2])

    def leave(self, place, pending):
        """(place, pending) of where one comes by leaving from a statement; place is that of a with for its exit."""
        while len(place) > 2:
            place, number = place[:-2], place[-2]
            statement = self.statement(place)
            if statement[0] == "with":
                return place + (1,), pending
            if statement[0] == "loop" and pending[0] == "leave":
                return self.go_on(place), ()
            if statement[0] == "loop" and pending[0] == "again":
                return place, ()
            if statement[0] == "try" and number == 0 and pending[0] == "raise":
                for at, (errors, _) in enumerate(statement[2]):
                    if len(errors) == 0 or pending[1] in errors:
                        return self.go_to(place, at + 1), ()
        return self.end(place), pending

    def points(self):
        found = []
        for number, (_, _, body) in enumerate(self.functions):
            self.add_points((number,), body, found)
            found.append((number, len(body)))
        return sorted(found)

    def add_points(self, ahead, block, found):
        for at, statement in enumerate(block):
            place = ahead + (at,)
            if statement[0] != "try":
                found.append(place)
            if statement[0] == "with":
                found.append(place + (1,))
            for number, inside in enumerate(blocks(statement)):
                self.add_points(place + (number,), inside, found)


class Active:
    """An activation: what it was handed, its values, its holds (outer ones first), where it is, and its pending."""

    def __init__(self, number, entry, handed, values, point):
        self.number, self.entry, self.handed = number, entry, handed
        self.values, self.holds, self.point, self.pending = values, [], point, ()

    def twin(self):
        twin = Active(self.number, self.entry, self.handed, dict(self.values), self.point)
        twin.holds, twin.pending = list(self.holds), self.pending
        return twin

    def pended(self):
        return self.pending[1] if self.pending and self.pending[0] in ("return", "take") else None


def number_objects(numbers, values):
    for value in values:
        if value is not None and value not in numbers:
            numbers[value] = len(numbers) + 1


class Run:
    """A run as it stands. Objects are told by how many were made ahead of them."""

    def __init__(self, program, guards=()):
        self.program, self.guards = program, {tuple(place) for place in guards}
        self.places = Places(program)
        self.kinds = {kind.name: kind for kind in program.kinds()}
        self.objects, self.gone, self.active = [], set(), []
        self.over, self.steps, self.calls = None, 0, []
        self.activate(program.number_of("main"), [])

    def twin(self):
        twin = Run(self.program, self.guards)
        twin.objects, twin.gone, twin.active = list(self.objects), set(self.gone), [one.twin() for one in self.active]
        twin.over, twin.steps, twin.calls = self.over, self.steps, list(self.calls)
        return twin

    def activate(self, number, values):
        name, params, body = self.program.functions()[number]
        numbers = {}
        number_objects(numbers, values)
        entry = (tuple(numbers.get(value, 0) for value in values), tuple(self.objects[one] for one in numbers))
        held = {variable: None for variable in self.program.variables(name)}
        held.update(zip(params, values))
        point = (number, 0) if len(body) == 0 else self.places.come_to((number, 0))
        self.active.append(Active(number, entry, list(numbers), held, point))

    def row(self):
        top = self.active[-1]
        name = self.program.functions()[top.number][0]
        refs = list(top.values.values()) + top.holds
        numbers = {}
        number_objects(numbers, top.handed)
        number_objects(numbers, refs + [top.pended()])
        pending = top.pending
        if pending and pending[0] in ("return", "take"):
            pending = (pending[0], numbers.get(pending[1], 0))
        objects = tuple(self.objects[one] for one in numbers)
        return (name, top.entry, top.point, (tuple(numbers.get(value, 0) for value in refs), objects, pending))

    def word(self):
        top = self.active[-1]
        if top.point == self.places.end(top.point):
            return "END"
        return "exit" if self.places.is_exit(top.point) else self.places.statement(top.point)[0]

    def called(self):
        """(object, method) of the call of the next step, or None."""
        top, word = self.active[-1], self.word()
        if word == "exit":
            return top.holds[-1], "exit"
        if word in ("call", "test"):
            statement = self.places.statement(top.point)
            return top.values[statement[1]], statement[2]
        if word == "with":
            return top.values[self.places.statement(top.point)[1]], "enter"
        return None

    def options(self):
        if self.word() in ("maybe", "loop"):
            return 2
        called = self.called()
        if called is None or called[0] is None:
            return 1
        kind, state = self.objects[called[0]]
        return max(1, len(self.kinds[kind][state, called[1]] or ()))

    def step(self, option):
        self.steps += 1
        point = self.active[-1].point
        called = self.called()
        if called is not None:
            self.call(called, option)
        else:
            self.plain(option)
        dropped = self.dropped()
        if self.over is None or self.over[0] in ("ended", "raised"):
            bad = [thing for thing in dropped if thing[1] not in self.kinds[thing[0]].ends]
            if bad and point not in self.guards:
                self.over = ("wrong", point, ("dropped",) + min(bad))

    def dropped(self):
        """What is held by nothing any more; it is gone then."""
        held = set()
        for one in self.active:
            held.update(one.values.values(), one.holds, [one.pended()])
        lost = [one for one in range(len(self.objects)) if one not in held and one not in self.gone]
        self.gone.update(lost)
        return [self.objects[one] for one in lost]

    def call(self, called, option):
        top = self.active[-1]
        thing, method = called
        why = ("nothing",)
        if thing is not None:
            kind, state = self.objects[thing]
            outcomes = self.kinds[kind][state, method]
            why = ("barred", kind, state, method) if outcomes is None else None
        if why is not None and top.point not in self.guards:
            self.over = ("wrong", top.point, why)
            return
        if why is not None:
            word = "GUARD"
        elif len(outcomes) == 0:
            self.over = ("waits",)
            return
        else:
            word, behind = outcomes[option]
            self.objects[thing] = (kind, behind)
            self.calls.append((thing, method, word, behind))
        self.answered(thing, word)

    def answered(self, thing, word):
        top, at = self.active[-1], self.word()
        if at == "exit":
            statement, pending = top.point[:-1], top.pending
            top.holds.pop()
            top.pending = ()
            if word not in ("yes", "no"):
                pending = ("raise", word)
            if pending == ():
                top.point = self.places.go_on(statement)
            else:
                top.point, top.pending = self.places.leave(statement, pending)
        elif word not in ("yes", "no"):
            top.point, top.pending = self.places.leave(top.point, ("raise", word))
        elif at == "test":
            top.point = self.places.go_to(top.point, 0 if word == "yes" else 1)
        elif at == "with":
            top.holds.append(thing)
            top.point = self.places.go_to(top.point, 0)
        else:
            top.point = self.places.go_on(top.point)

    def plain(self, option):
        top, word = self.active[-1], self.word()
        if word == "END":
            self.end()
            return
        statement = self.places.statement(top.point)
        if word in ("leave", "again"):
            top.point, top.pending = self.places.leave(top.point, (word,))
        elif word == "raise":
            top.point, top.pending = self.places.leave(top.point, ("raise", statement[1]))
        elif word == "return":
            value = None if statement[1] is None else top.values[statement[1]]
            top.point, top.pending = self.places.leave(top.point, ("return", value))
        elif word == "wait":
            self.over = ("waits",)
        elif word == "run" and top.pending == ():
            self.activate(self.program.number_of(statement[2]), [top.values[one] for one in statement[3]])
        elif word in ("new", "copy", "none", "run"):
            self.put(statement)
        elif word == "loop":
            top.point = self.places.go_on(top.point) if option == 0 else self.places.go_to(top.point, 0)
        elif word == "maybe":
            top.point = self.places.go_to(top.point, option)
        elif word == "has":
            top.point = self.places.go_to(top.point, 1 if top.values[statement[1]] is None else 0)
        else:
            alike = top.values[statement[1]] == top.values[statement[2]]
            top.point = self.places.go_to(top.point, 0 if alike else 1)

    def put(self, statement):
        top = self.active[-1]
        value = None
        if statement[0] == "new":
            self.objects.append((statement[2], self.kinds[statement[2]].start))
            value = len(self.objects) - 1
        elif statement[0] == "copy":
            value = top.values[statement[2]]
        elif statement[0] == "run":
            value = top.pending[1]
            top.pending = ()
        if statement[1] is not None:
            top.values[statement[1]] = value
        top.point = self.places.go_on(top.point)

    def end(self):
        pending = self.active.pop().pending or ("return", None)
        if len(self.active) == 0:
            self.over = ("ended",) if pending[0] == "return" else ("raised", pending[1])
        elif pending[0] == "return":
            self.active[-1].pending = ("take", pending[1])
        else:
            top = self.active[-1]
            top.point, top.pending = self.places.leave(top.point, pending)

    def whole(self):
        """All by which runs that stand alike can be told apart later."""
        numbers = {}
        told = []
        for one in self.active:
            values = list(one.values.values()) + one.holds + [one.pended()]
            number_objects(numbers, one.handed + values)
            told.append((one.number, one.entry, tuple(numbers[old] for old in one.handed), one.point, one.pending[:1],
                         one.pending[1:] if one.pending[:1] == ("raise",) else (),
                         tuple(numbers.get(value, 0) for value in values)))
        return (tuple(told), tuple(self.objects[one] for one in numbers))


def follow(program, choices, most=500, guards=()):
    """What a Walk tells: (end, used, steps, places, calls, objects, rows)."""
    run = Run(program, guards)
    used, places, rows = 0, [], []
    while run.over is None:
        rows.append(run.row())
        many = run.options()
        if run.steps == most:
            run.over = ("spent",)
        elif many > 1 and used == len(choices):
            run.over = ("open",)
        else:
            option = 0
            if many > 1:
                option = choices[used] % many
                used += 1
            places.append(run.active[-1].point)
            run.step(option)
    return run.over, used, run.steps, places, run.calls, run.objects, rows


def all_runs(program, many, most=500, guards=()):
    """What runs tells, as a list."""
    found = []

    def look(run, choices):
        while run.over is None and run.steps < most and run.options() == 1:
            run.step(0)
        if run.over is not None or run.steps == most:
            found.append((choices, run.over or ("spent",)))
        elif len(choices) == many:
            found.append((choices, ("open",)))
        else:
            for option in range(run.options()):
                twin = run.twin()
                twin.step(option)
                look(twin, choices + (option,))
    look(Run(program, guards), ())
    return found


def reach(program, deep, many, guards=(), first=None, below=0):
    """(rows, wrongs, whole): the dicts from each row and each (place, why) to the fewest steps to them.

    whole is whether all that can come was looked at: no run had more than so many activations, and there were
    no more than so many ways to stand. The activations below the run that is passed make no steps.
    """
    rows, wrongs, whole = {}, {}, True
    first = first or Run(program, guards)
    seen, line = {first.whole()}, [first]
    while line:
        ahead, line = line, []
        for run in ahead:
            rows.setdefault(run.row(), run.steps)
            if len(run.active) > deep or len(seen) > many:
                whole = False
                continue
            for option in range(run.options()):
                twin = run.twin()
                twin.step(option)
                if twin.over is None and len(twin.active) > below:
                    told = twin.whole()
                    if told not in seen:
                        seen.add(told)
                        line.append(twin)
                elif twin.over is not None and twin.over[0] == "wrong":
                    wrongs.setdefault(twin.over[1:], twin.steps)
    return rows, wrongs, whole
