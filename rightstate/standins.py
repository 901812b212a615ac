"""Stand-ins: kinds whose objects may be in the place of those of another kind in all programs."""

from rightstate.errors import BadKind, Parted, TooLong, TooMany
from rightstate.forms import is_name, is_pair, is_row
from rightstate.kinds import MOST_METHODS, MOST_OUTCOMES, MOST_STATES, Kind
from rightstate.naming import state_name
from rightstate.programs import Program
from rightstate.sides import Found, Sides

MOST_CALLS = 12


def _first_fault(sides, found):
    """(history, why) of the first pair that is not good, or None."""
    for pair in found.pairs:
        why = sides.fault(pair)
        if why is not None:
            return (found.history_to(pair), why)
    return None


def parted(one, other):
    """None if other may stand in for one; otherwise the first of the shortest histories that part them, and why."""
    sides = Sides(one, other)
    return _first_fault(sides, Found(sides))


def pairing(one, other):
    """The sorted list of the pairs of all fair histories of two kinds of which other may stand in for one."""
    sides = Sides(one, other)
    found = Found(sides)
    fault = _first_fault(sides, found)
    if fault is not None:
        history, why = fault
        raise Parted(history, why)
    return sorted([sides.told(pair) for pair in found.pairs])


def _read_states(side, thing):
    """The set that a sorted row of unlike states tells; 0 if it is none."""
    if not is_row(thing) or not all([side.has(state) for state in thing]):
        return 0
    if list(thing) != sorted(set(thing)):
        return 0
    return side.set_of(thing)


def _read_pairs(sides, pairs):
    """A pair: the list of the pairs of sets that are told, and the index of the first one that is none, or None."""
    if not is_row(pairs):
        return [], -1
    found = []
    for index, pair in enumerate(pairs):
        if not is_pair(pair):
            return found, index
        read = (_read_states(sides.one, pair[0]), _read_states(sides.other, pair[1]))
        if 0 in read:
            return found, index
        found.append(read)
    return found, None


def pairing_fault(one, other, pairs):
    """None if the pairs show that other may stand in for one; otherwise the first thing that is wrong with them."""
    sides = Sides(one, other)
    # Two kinds with too many pairs are refused, whatever is told of them.
    Found(sides)
    read, index = _read_pairs(sides, pairs)
    if index is not None:
        return ("pairs", index)
    known = {pair: True for pair in read}
    if sides.begin not in known:
        return ("begin",)
    for index, pair in enumerate(read):
        why = sides.fault(pair)
        if why is not None:
            return why[:1] + (index,) + why[1:]
        for call, behind in sides.steps(pair):
            if behind not in known:
                return ("step", index) + call
    return None


def parting_program(one, other):
    """A program that is safe with the kind one and not with other in its place; None if other may stand in."""
    fault = parted(one, other)
    if fault is None:
        return None
    history, why = fault
    if len(history) > MOST_CALLS:
        raise TooLong(len(history))
    body = [("new", "x", one.name)]
    for method, word in history:
        body.extend(_answered(method, word, ()))
    if why[0] == "barred":
        body.extend([("try", (("call", "x", why[1]),), (((), ()),)), ("wait",)])
    elif why[0] == "word":
        # No object is ever held by y.
        body.extend(_answered(why[1], why[2], (("call", "y", why[1]),)) + [("wait",)])
    return Program([one], [("main", (), body)])


def _answered(method, word, block):
    """Statements that call the method of x, do the block by this word, and wait by any other one."""
    wait = (("wait",),)
    if word == "yes":
        return [("try", (("test", "x", method, block, wait),), (((), wait),))]
    if word == "no":
        return [("try", (("test", "x", method, wait, block),), (((), wait),))]
    return [("try", (("call", "x", method),) + wait, (((word,), block), ((), wait)))]


def common(one, other, name):
    """The kind for which both kinds may stand in, and which may stand in for all for which both may."""
    if not is_name(name):
        raise BadKind("name")
    sides = Sides(one, other)
    names = {sides.begin: state_name(0)}
    pairs = [sides.begin]
    rows = []
    while len(rows) < len(pairs):
        methods, steps = sides.both(pairs[len(rows)])
        rows.append((methods, steps))
        for _, behind in steps:
            if behind not in names:
                if len(pairs) == MOST_STATES:
                    raise TooMany(MOST_STATES)
                names[behind] = state_name(len(pairs))
                pairs.append(behind)
    moves = _moves_of(names, pairs, rows)
    if len({method for _, method in moves}) > MOST_METHODS or _longest(moves) > MOST_OUTCOMES:
        raise TooMany(MOST_METHODS)
    return Kind(name, state_name(0), [names[pair] for pair in pairs if sides.is_end(pair)], moves)


def _moves_of(names, pairs, rows):
    """The moves of a kind of these pairs; rows has for each of them its methods, and the calls that lead on."""
    moves = {}
    for pair, (methods, steps) in zip(pairs, rows):
        for method in methods:
            moves[names[pair], method] = []
        for (method, word), behind in steps:
            moves[names[pair], method].append((word, names[behind]))
    return moves


def _longest(moves):
    return max([len(row) for row in moves.values()], default=0)


def stand_ins(kinds):
    """The sorted list of the pairs (i, j) of unlike indexes such that kind j may stand in for kind i."""
    found = []
    for index, one in enumerate(kinds):
        for number, other in enumerate(kinds):
            if index != number and parted(one, other) is None:
                found.append((index, number))
    return found
