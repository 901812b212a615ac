"""What the steps of a run do.

An activation stands at a point with refs (what its variables and then the holds of its withs hold: the number of
an object, or 0 for None) and a pending. Objects are the row of (kind, state) of the objects, of which the first
one has the number 1. Olds are the numbers of the objects that were handed to the activation, which it never drops.

A step has a result for each of its options: a tuple (what, where, refs, pending, change, word).

- "go": the activation is at the point `where` then, with these refs and this pending.
- "run": the function number `where` is run, with refs for its parameters.
- "over": the activation is over; where is "return" or the error, and refs has the value that is returned alone.
  Of a method of a built class, where is what it answers, and refs has what its fields hold.
- "wrong": the step goes wrong, and where is why.
- "waits": the run goes no further.

change is (number, (kind, state)) of an object that is made or called, or None; word is what the call answered.
"""

from rightstate.errors import NoPlace
from rightstate.forms import are_integers, is_row

GUARD_ERROR = "GUARD"


class Rules:
    """How a program is run: its flow, and the guards among its points; it never changes."""

    def __init__(self, flow, guards):
        self.flow = flow
        self.guards = guards


def point_of(flow, place):
    """The point with this place; what is none is refused."""
    point = flow.point_at(tuple(place)) if are_integers(place) else None
    if point is None:
        raise NoPlace(place)
    return point


def rules_of(program, guards):
    """The rules of a program with these guards; what is no row of its points is refused."""
    if not is_row(guards):
        raise NoPlace(guards)
    flow = program.laid_out()
    return Rules(flow, {point_of(flow, place): True for place in guards})


def value_of(pending):
    """The number of the object that a pending holds, or 0."""
    if pending and pending[0] in ("return", "take"):
        return pending[1]
    return 0


def landing(around, error):
    """The (point, pending) to which an error leads."""
    for errors, first in around.catches:
        if not errors or error in errors:
            return first, ()
    return around.out, ("raise", error)


def _where_to(around, pending):
    """The (point, pending) to which one comes by leaving with a pending."""
    if pending[0] == "leave":
        return around.leave
    if pending[0] == "again":
        return around.again
    if pending[0] == "raise":
        return landing(around, pending[1])
    return around.out, pending


def _with_value(refs, index, value):
    return refs[:index] + (value,) + refs[index + 1:]


def _goes(where, refs, pending):
    return ("go", where, refs, pending, None, None)


def _why_dropped(rules, point, loose, kept, objects, olds):
    """The why of a step that drops one of the loose objects where it may not; None if it does not."""
    found = [objects[one - 1] for one in loose if one != 0 and one not in kept and one not in olds]
    bad = [(kind, state) for kind, state in found if state not in rules.flow.kind_by_name[kind].ends]
    if not bad or point in rules.guards:
        return None
    return ("dropped",) + min(bad)


def _with_drop(rules, point, loose, result, objects, olds):
    """The result, or that of going wrong if it lets objects fall among the loose ones."""
    _, _, refs, pending, change, word = result
    why = _why_dropped(rules, point, loose, refs + (value_of(pending),), objects, olds)
    if why is None:
        return result
    return ("wrong", why, (), (), change, word)


def _new(rules, point, refs, pending, objects, olds):
    index, kind = point.parts
    number = len(objects) + 1
    change = (number, (kind, rules.flow.kind_by_name[kind].start))
    result = ("go", point.ways[0], _with_value(refs, index, number), (), change, None)
    return [_with_drop(rules, point, (refs[index],), result, objects, olds)]


def _put(rules, point, refs, index, value, objects, olds):
    """The variable of this index holds a value that the activation held already."""
    result = _goes(point.ways[0], _with_value(refs, index, value), ())
    return [_with_drop(rules, point, (refs[index],), result, objects, olds)]


def _copy(rules, point, refs, pending, objects, olds):
    index, other = point.parts
    return _put(rules, point, refs, index, refs[other], objects, olds)


def _none(rules, point, refs, pending, objects, olds):
    return _put(rules, point, refs, point.parts[0], 0, objects, olds)


def _answers(rules, point, number, objects):
    """A pair of the outcomes of a call and of the why if it goes wrong; one of them is None."""
    if number == 0:
        return None, ("nothing",)
    kind, state = objects[number - 1]
    method = point.parts[1]
    outcomes = rules.flow.kind_by_name[kind][state, method]
    if outcomes is None:
        return None, ("barred", kind, state, method)
    return outcomes, None


def _call(rules, point, refs, pending, objects, olds):
    """A call of a method, also as a test and in coming to a with."""
    number = refs[point.parts[0]]
    outcomes, why = _answers(rules, point, number, objects)
    if why is not None and point in rules.guards:
        where, behind = landing(point.around, GUARD_ERROR)
        return [_goes(where, refs, behind)]
    if why is not None:
        return [("wrong", why, (), (), None, None)]
    inside = refs + (number,) if point.word == "with" else refs
    results = []
    for word, state in outcomes:
        change = (number, (objects[number - 1][0], state))
        if word == "yes":
            results.append(("go", point.ways[0], inside, (), change, word))
        elif word == "no":
            results.append(("go", point.ways[1], inside, (), change, word))
        else:
            where, behind = landing(point.around, word)
            results.append(("go", where, refs, behind, change, word))
    return results or [("waits", None, (), (), None, None)]


def _end_hold(rules, point, refs, pending, objects, olds):
    number = refs[-1]
    loose = (number, value_of(pending))
    outcomes, why = _answers(rules, point, number, objects)
    if why is not None and point in rules.guards:
        where, behind = landing(point.around, GUARD_ERROR)
        return [_with_drop(rules, point, loose, _goes(where, refs[:-1], behind), objects, olds)]
    if why is not None:
        return [("wrong", why, (), (), None, None)]
    results = []
    for word, state in outcomes:
        if word != "yes" and word != "no":
            where, behind = landing(point.around, word)
        elif pending == ():
            where, behind = point.ways[0], ()
        else:
            where, behind = _where_to(point.around, pending)
        thing = (objects[number - 1][0], state)
        result = ("go", where, refs[:-1], behind, (number, thing), word)
        results.append(_with_drop(rules, point, loose, result, _with_value(tuple(objects), number - 1, thing), olds))
    return results or [("waits", None, (), (), None, None)]


def _same(rules, point, refs, pending, objects, olds):
    index, other = point.parts
    return [_goes(point.ways[0] if refs[index] == refs[other] else point.ways[1], refs, ())]


def _has(rules, point, refs, pending, objects, olds):
    return [_goes(point.ways[0] if refs[point.parts[0]] != 0 else point.ways[1], refs, ())]


def _choose(rules, point, refs, pending, objects, olds):
    """A maybe or a loop."""
    return [_goes(point.ways[0], refs, ()), _goes(point.ways[1], refs, ())]


def _leave(rules, point, refs, pending, objects, olds):
    """A statement that leaves its block: leave, again, raise or say."""
    where, behind = _where_to(point.around, (point.word,) + point.parts)
    return [_goes(where, refs, behind)]


def _return(rules, point, refs, pending, objects, olds):
    index = point.parts[0]
    return [_goes(point.around.out, refs, ("return", 0 if index is None else refs[index]))]


def _run(rules, point, refs, pending, objects, olds):
    index, function, args = point.parts
    if pending == ():
        return [("run", function, tuple([refs[arg] for arg in args]), (), None, None)]
    taken = value_of(pending)
    if index is None:
        return [_with_drop(rules, point, (taken,), _goes(point.ways[0], refs, ()), objects, olds)]
    return _put(rules, point, refs, index, taken, objects, olds)


def _wait(rules, point, refs, pending, objects, olds):
    return [("waits", None, (), (), None, None)]


def _done(rules, point, refs, pending, objects, olds):
    """The end of a method of a built class: its fields stay, which are its first variables."""
    how = pending[1] if pending else "no"
    kept = refs[:rules.flow.param_counts[point.place[0]]]
    return [_with_drop(rules, point, refs, ("over", how, kept, (), None, None), objects, olds)]


def _over(rules, point, refs, pending, objects, olds):
    how = pending[1] if pending and pending[0] == "raise" else "return"
    taken = value_of(pending)
    # What main returns is gone with it; what any other function returns is held by the one that ran it.
    kept = 0 if point.place[0] == rules.flow.main else taken
    result = ("over", how, (kept,), (), None, None)
    return [_with_drop(rules, point, refs + (taken,), result, objects, olds)]


ACTIONS = {
    "new": _new,
    "copy": _copy,
    "none": _none,
    "call": _call,
    "test": _call,
    "same": _same,
    "has": _has,
    "maybe": _choose,
    "loop": _choose,
    "leave": _leave,
    "again": _leave,
    "with": _call,
    "exit": _end_hold,
    "run": _run,
    "return": _return,
    "raise": _leave,
    "wait": _wait,
    "over": _over,
    "say": _leave,
    "done": _done,
}


def results_of(rules, point, refs, pending, objects, olds):
    """The results of the step of an activation that stands so, one for each option, in their order."""
    action = ACTIONS[point.word]
    return action(rules, point, refs, pending, objects, olds)
