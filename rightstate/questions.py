"""Questions about a program: what is reached, what variables hold, which moves are idle, what a function needs."""

from rightstate.errors import NoVariable, TooMany
from rightstate.forms import is_name
from rightstate.search import MOST_ROWS, Search, table_search
from rightstate.steps import point_of, rules_of

MOST_ENTRIES = 600
CALLS = ("call", "test", "with", "exit")


def reached(program, *, guards=()):
    """The sorted list of the points at which some run stands."""
    return sorted({point.place for _, point, _ in table_search(program, guards).found_rows})


def _indexes_of(program, point, variables):
    """The indexes of variables of the function of a point."""
    names = program.laid_out().variable_rows[point.place[0]]
    for variable in variables:
        if not is_name(variable) or variable not in names:
            raise NoVariable(variable)
    return [names.index(variable) for variable in variables]


def _configs_at(program, point, guards):
    """The list of the configs with which some run stands at a point."""
    return [config for _, there, config in table_search(program, guards).found_rows if there.place == point.place]


def states_at(program, place, variable, *, guards=()):
    """The sorted list of what a variable holds at a place: (kind, state), or () for None."""
    point = point_of(program.laid_out(), place)
    index = _indexes_of(program, point, [variable])[0]
    found = {}
    for refs, objects, _ in _configs_at(program, point, guards):
        found[objects[refs[index] - 1] if refs[index] != 0 else ()] = True
    return sorted(list(found))


def alike_at(program, place, one, other, *, guards=()):
    """The sorted list of those of "same" and "unlike" that fit what two variables hold at a place."""
    point = point_of(program.laid_out(), place)
    index, beside = _indexes_of(program, point, [one, other])
    configs = _configs_at(program, point, guards)
    return sorted({"same" if refs[index] == refs[beside] else "unlike" for refs, _, _ in configs})


def idle(program, kind, *, guards=()):
    """The sorted list of the (state, method) of a kind that have a move which no step calls."""
    moves = program.kind_of(kind).moves()
    called = {}
    for _, point, (refs, objects, _) in table_search(program, guards).found_rows:
        if point.word in CALLS and refs[point.parts[0]] != 0:
            called[objects[refs[point.parts[0]] - 1], point.parts[1]] = True
    return [(state, method) for state, method in moves if ((kind, state), method) not in called]


def needs(program, function, *, guards=()):
    """The sorted list of all entries of a function from which no run goes wrong."""
    number = program.number_of(function)
    rules = rules_of(program, guards)
    entries = _entries_of(rules.flow, number)
    search = Search(rules)
    activations = [search.explore(number, entry) for entry in entries]
    summed = Sums(search)
    safe = [summed.is_safe(activation) for activation in activations]
    return sorted([entry for entry, right in zip(entries, safe) if right])


def _entries_of(flow, number):
    """The list of all entries of a function."""
    things = [(kind, state) for kind in sorted(flow.kind_by_name) for state in flow.kind_by_name[kind].states()]
    refs_rows = _refs_rows(flow.param_counts[number])
    many = 0
    for refs in refs_rows:
        ways = 1
        for _ in range(max(refs, default=0)):
            ways = ways * len(things)
        many += ways
    if many > MOST_ENTRIES:
        raise TooMany(MOST_ENTRIES)
    found = []
    for refs in refs_rows:
        found.extend([(refs, objects) for objects in _rows_over(things, max(refs, default=0))])
    return found


def _refs_rows(many):
    """All ways in which so many parameters hold None or objects, those numbered in their order."""
    found = [()]
    for _ in range(many):
        found = [refs + (ref,) for refs in found for ref in range(max(refs, default=0) + 2)]
    return found


def _rows_over(things, many):
    """All rows of so many of the things."""
    found = [()]
    for _ in range(many):
        found = [row + (thing,) for row in found for thing in things]
    return found


class Sums:
    """What is found of each activation of a search, and of all that it runs."""

    def __init__(self, search):
        self._sizes = [0 for _ in search.activations]
        self._wrong = [False for _ in search.activations]
        self._runs = [{} for _ in search.activations]
        for row, (activation, _, _) in enumerate(search.found_rows):
            self._sizes[activation] += 1
            for _, what, target in search.links[row]:
                if what == "wrong":
                    self._wrong[activation] = True
                elif what == "run":
                    self._runs[activation][target] = True

    def is_safe(self, activation):
        """Whether the summary of an activation has no step that goes wrong; it may have too many rows."""
        known = {activation: True}
        waiting = [activation]
        while waiting:
            for other in self._runs[waiting.pop()]:
                if other not in known:
                    known[other] = True
                    waiting.append(other)
        if sum([self._sizes[one] for one in known]) > MOST_ROWS:
            raise TooMany(MOST_ROWS)
        return not any([self._wrong[one] for one in known])
