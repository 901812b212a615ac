"""What is passed as an entry, a row or an exit of a program: read in tuples, or None if it is none."""

from rightstate.forms import are_integers, frozen, is_error, is_integer, is_plain
from rightstate.steps import value_of

# How deep rows lie within one another in what is read.
ENTRY_DEPTH = 3
ROW_DEPTH = 4


def _is_tuple(thing, many):
    return isinstance(thing, tuple) and len(thing) == many


def _are_objects(flow, thing):
    if not isinstance(thing, tuple):
        return False
    for one in thing:
        if not _is_tuple(one, 2) or one[0] not in flow.states_by_kind or one[1] not in flow.states_by_kind[one[0]]:
            return False
    return True


def _highest(values, known):
    """The highest of the numbers if those above known come one by one in their order; -1 if they do not."""
    highest = known
    for one in values:
        if not is_integer(one) or not 0 <= one <= highest + 1:
            return -1
        highest = max(highest, one)
    return highest


def _is_entry(flow, number, thing):
    if not _is_tuple(thing, 2) or not _is_tuple(thing[0], flow.param_counts[number]):
        return False
    return _are_objects(flow, thing[1]) and _highest(thing[0], 0) == len(thing[1])


def read_entry(flow, number, thing):
    """An entry of the function with this number."""
    if not is_plain(thing, ENTRY_DEPTH):
        return None
    told = frozen(thing)
    return told if _is_entry(flow, number, told) else None


def _can_pend(point, thing):
    """Whether this is a pending with which one can stand at a point; its value is looked at with the refs."""
    if thing == ():
        return True
    if thing == ("leave",) or thing == ("again",):
        return point.word == "exit" and point.around.leave is not None
    if not _is_tuple(thing, 2):
        return False
    if thing[0] == "take":
        return point.word == "run"
    if point.word != "exit" and point.word != "over":
        return False
    return thing[0] == "return" or (thing[0] == "raise" and is_error(thing[1]))


def _is_config(flow, point, entry, thing):
    if not _is_tuple(thing, 3):
        return False
    refs, objects, pending = thing
    size = flow.size_of(point.place[0])
    if not _is_tuple(refs, size + point.holds) or 0 in refs[size:]:
        return False
    if not _are_objects(flow, objects) or not _can_pend(point, pending):
        return False
    if [kind for kind, _ in objects[:len(entry[1])]] != [kind for kind, _ in entry[1]]:
        return False
    return _highest(refs + (value_of(pending),), len(entry[1])) == len(objects)


def read_row(flow, thing):
    """A row: (function, entry, place, config)."""
    if not is_plain(thing, ROW_DEPTH):
        return None
    told = frozen(thing)
    if not _is_tuple(told, 4) or told[0] not in flow.numbers or not are_integers(told[2]):
        return None
    function, entry, place, config = told
    number = flow.numbers[function]
    point = flow.point_at(place)
    if point is None or place[0] != number or not _is_entry(flow, number, entry):
        return None
    return told if _is_config(flow, point, entry, config) else None


def _is_exit(flow, number, entry, thing):
    if not _is_tuple(thing, 3) or not _is_tuple(thing[1], len(entry[1])):
        return False
    how, states, value = thing
    if how != "return" and not is_error(how):
        return False
    if not _are_objects(flow, tuple([(kind, state) for (kind, _), state in zip(entry[1], states)])):
        return False
    if value == ("none",):
        return True
    if how != "return" or number == flow.main:
        return False
    if _is_tuple(value, 2):
        return value[0] == "old" and is_integer(value[1]) and 1 <= value[1] <= len(entry[1])
    return _is_tuple(value, 3) and value[0] == "new" and _are_objects(flow, (value[1:],))


def read_exit(flow, thing):
    """An exit with what it belongs to: (function, entry, exit)."""
    if not is_plain(thing, ROW_DEPTH):
        return None
    told = frozen(thing)
    if not _is_tuple(told, 3) or told[0] not in flow.numbers:
        return None
    function, entry, way = told
    number = flow.numbers[function]
    if not _is_entry(flow, number, entry) or not _is_exit(flow, number, entry, way):
        return None
    return told
