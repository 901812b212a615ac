"""Papers judged as section 8 of the document tells, with the runs of reference.py."""

from reference import Active, Run


def is_number(thing):
    return isinstance(thing, int) and not isinstance(thing, bool)


def stand_at(program, row, guards=()):
    """A run of which the last activation stands at a row, and one below it holds the objects of its entry."""
    function, entry, place, (refs, objects, pending) = row
    run = Run(program, guards)
    run.objects = list(objects)
    variables = program.variables(function)
    held = [None if ref == 0 else ref - 1 for ref in refs]
    handed = list(range(len(entry[1])))
    top = Active(program.number_of(function), entry, handed, dict(zip(variables, held)), place)
    top.holds = held[len(variables):]
    top.pending = pending
    if pending and pending[0] in ("return", "take"):
        top.pending = (pending[0], None if pending[1] == 0 else pending[1] - 1)
    below = Active(0, ((), ()), [], {number: number for number in handed}, (0, 0))
    run.active = [below, top]
    return run


def are_objects(program, things):
    kinds = {kind.name: kind.states() for kind in program.kinds()}
    return isinstance(things, tuple) and all(
        isinstance(one, tuple) and len(one) == 2 and one[0] in kinds and one[1] in kinds[one[0]] for one in things)


def is_entry(program, function, entry):
    names = [name for name, _, _ in program.functions()]
    if function not in names or not isinstance(entry, tuple) or len(entry) != 2:
        return False
    refs, objects = entry
    if not isinstance(refs, tuple) or not are_objects(program, objects) or not all(map(is_number, refs)):
        return False
    seen = [0]
    for ref in refs:
        if ref not in seen:
            seen.append(ref)
    return seen == list(range(len(objects) + 1)) and len(refs) == len(program.functions()[names.index(function)][1])


def around(run, place):
    """The first words of the statements in whose blocks a statement stands."""
    return [run.places.statement(place[:end])[0] for end in range(2, len(place), 2)]


def can_pend(run, place, word, pending):
    if pending == ():
        return True
    if word == "run":
        return len(pending) == 2 and pending[0] == "take" and is_number(pending[1])
    if pending in (("leave",), ("again",)):
        return word == "exit" and "loop" in around(run, place[:-1])
    if word not in ("exit", "END") or len(pending) != 2:
        return False
    if pending[0] == "raise":
        return isinstance(pending[1], str) and pending[1].isalpha() and pending[1].isupper() and len(pending[1]) <= 8
    return pending[0] == "return" and is_number(pending[1])


def is_row(program, row):
    """Whether a tuple of four is a row; what lies deeper in it has the right forms but not always the right values."""
    function, entry, place, (refs, objects, pending) = row
    if not is_entry(program, function, entry) or place not in program.points() or not all(map(is_number, refs)):
        return False
    if place[0] != program.number_of(function) or not are_objects(program, objects):
        return False
    if min(refs, default=0) < 0 or max(refs, default=0) > len(objects):
        return False
    if [kind for kind, _ in objects[:len(entry[1])]] != [kind for kind, _ in entry[1]]:
        return False
    start = program.points().index(place)
    run = Run(program)
    run.active[-1].point = place
    word = run.word()
    if not can_pend(run, place, word, pending) or start < 0:
        return False
    if pending and pending[0] in ("return", "take") and not 0 <= pending[1] <= len(objects):
        return False
    size = len(program.variables(function))
    withs = around(run, place[:-1] if word == "exit" else place).count("with") + (word == "exit")
    if len(refs) != size + withs or 0 in refs[size:]:
        return False
    return stand_at(program, row).row() == row


def is_exit(program, told):
    function, entry, (how, states, value) = told
    if not is_entry(program, function, entry) or len(states) != len(entry[1]):
        return False
    if not are_objects(program, tuple((kind, state) for (kind, _), state in zip(entry[1], states))):
        return False
    if value == ("none",):
        return how == "return" or (how.isupper() and how.isalpha())
    if how != "return" or function == "main":
        return False
    if value[0] == "old":
        return len(value) == 2 and value[1] in range(1, len(states) + 1)
    return value[0] == "new" and are_objects(program, (value[1:],))


def ended(run):
    """(why, exit) of the step of an activation at its END, one of them None."""
    top = run.active[-1]
    main = run.program.functions()[top.number][0] == "main"
    value = top.pended()
    kept = top.handed + ([] if main else [value])
    lost = [thing for number, thing in enumerate(run.objects) if number not in kept]
    bad = [(kind, state) for kind, state in lost if state not in run.kinds[kind].ends]
    if bad and top.point not in run.guards:
        return ("dropped",) + min(bad), None
    states = tuple(run.objects[number][1] for number in top.handed)
    if top.pending[:1] == ("raise",):
        return None, (top.pending[1], states, ("none",))
    if main or value is None:
        return None, ("return", states, ("none",))
    if value in top.handed:
        return None, ("return", states, ("old", value + 1))
    return None, ("return", states, ("new",) + run.objects[value])


def behind_exit(run, handed, way):
    """The row behind an exit of what the last activation runs, which was handed these objects."""
    how, states, value = way
    run = run.twin()
    top = run.active[-1]
    for number, state in zip(handed, states):
        run.objects[number] = (run.objects[number][0], state)
    if how != "return":
        top.point, top.pending = run.places.leave(top.point, ("raise", how))
        return run.row()
    back = None
    if value[0] == "old":
        back = handed[value[1] - 1]
    elif value[0] == "new":
        run.objects.append(value[1:])
        back = len(run.objects) - 1
    top.pending = ("take", back)
    return run.row()


def fault_at(program, index, row, rows, exits, guards):
    run = stand_at(program, row, guards)
    if run.word() == "END":
        why, way = ended(run)
        if why is not None:
            return ("wrong", index, why)
        return None if row[:2] + (way,) in exits else ("exit", index, way)
    for option in range(run.options()):
        twin = run.twin()
        twin.step(option)
        if twin.over is not None and twin.over[0] == "wrong":
            return ("wrong", index, twin.over[2])
        things = [] if twin.over is not None else [twin.row()]
        if len(twin.active) > len(run.active):
            things += [behind_exit(run, twin.active[-1].handed, way) for function, entry, way in exits
                       if (function, entry) == things[0][:2]]
        for thing in things:
            if thing not in rows:
                return ("step", index, thing)
    return None


def fault(program, rows, exits, guards=()):
    for index, row in enumerate(rows):
        if not is_row(program, row):
            return ("rows", index)
    for index, told in enumerate(exits):
        if not is_exit(program, told):
            return ("exits", index)
    if Run(program).row() not in rows:
        return ("begin",)
    for index, row in enumerate(rows):
        found = fault_at(program, index, row, rows, exits, guards)
        if found is not None:
            return found
    return None
