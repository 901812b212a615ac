"""Programs: kinds, and functions that make objects of them and call their methods."""

from rightstate.errors import BadProgram, NoFunction, NoKind
from rightstate.flows import Flow
from rightstate.forms import are_unlike_names, frozen, is_name, is_row, is_statement, statements_of, variables_in
from rightstate.kinds import Kind

MOST_KINDS = 4
MOST_FUNCTIONS = 6
MOST_PARAMS = 3
MOST_VARIABLES = 5
MOST_STATEMENTS = 200
MOST_BLOCKS = 6
MOST_WITHS = 1


def _are_kinds(thing):
    if not is_row(thing) or not 1 <= len(thing) <= MOST_KINDS:
        return False
    return all([isinstance(one, Kind) for one in thing]) and len({kind.name for kind in thing}) == len(thing)


def _is_function(thing):
    if not is_row(thing) or len(thing) != 3:
        return False
    name, params, body = thing
    return is_name(name) and are_unlike_names(params) and len(params) <= MOST_PARAMS and is_row(body)


def _counts_of(functions):
    """The dict from the names of the functions to how many params they have."""
    counts = {}
    for number, function in enumerate(functions):
        if not _is_function(function) or function[0] in counts:
            raise BadProgram((number,))
        counts[function[0]] = len(function[1])
    return counts


def _can_stand(word, around):
    """Whether a statement with this first word can stand in blocks of statements with those words."""
    if len(around) > MOST_BLOCKS:
        return False
    if word in ("leave", "again"):
        return "loop" in around
    return word != "with" or around.count("with") <= MOST_WITHS


def _has_all(statement, kinds, counts):
    """Whether the kind or the function is there that a statement names."""
    if statement[0] == "new":
        return statement[2] in [kind.name for kind in kinds]
    if statement[0] == "run":
        return statement[2] != "main" and counts.get(statement[2]) == len(statement[3])
    return True


def _is_right(statement, around, kinds, counts):
    return is_statement(statement) and _can_stand(statement[0], around) and _has_all(statement, kinds, counts)


def _wrong_place(number, function, kinds, counts):
    """The place of the first wrong statement of a function, or None."""
    named = {variable: True for variable in function[1]}
    many = 0
    for place, statement, around in statements_of(function[2], (number,), ()):
        many += 1
        if many > MOST_STATEMENTS or not _is_right(statement, around, kinds, counts):
            return place
        for variable in variables_in(statement):
            named[variable] = True
        if len(named) > MOST_VARIABLES:
            return place
    return None


def _check_program(kinds, functions):
    if not _are_kinds(kinds) or not is_row(functions) or not 1 <= len(functions) <= MOST_FUNCTIONS:
        raise BadProgram(())
    counts = _counts_of(functions)
    if counts.get("main") != 0:
        raise BadProgram(())
    for number, function in enumerate(functions):
        place = _wrong_place(number, function, kinds, counts)
        if place is not None:
            raise BadProgram(place)


class Program:
    """Kinds and functions; it never changes."""

    def __init__(self, kinds, functions):
        _check_program(kinds, functions)
        self._kinds = tuple(kinds)
        self._functions = frozen(functions)
        self._flow = Flow(self._kinds, self._functions)

    def kinds(self):
        """The list of the kinds."""
        return list(self._kinds)

    def functions(self):
        """The list of the functions, as tuples (name, params, body)."""
        return list(self._functions)

    def kind_of(self, name):
        """The kind with this name."""
        if not is_name(name) or name not in self._flow.kind_by_name:
            raise NoKind(name)
        return self._flow.kind_by_name[name]

    def variables(self, function):
        """The list of the variables of the function with this name, the parameters first."""
        return list(self._flow.variable_rows[self.number_of(function)])

    def number_of(self, function):
        """The number of the function with this name."""
        if not is_name(function) or function not in self._flow.numbers:
            raise NoFunction(function)
        return self._flow.numbers[function]

    def replaced(self, kind):
        """The program with this kind in the place of that with the same name."""
        if not isinstance(kind, Kind):
            raise NoKind(kind)
        if kind.name not in self._flow.kind_by_name:
            raise NoKind(kind.name)
        return Program([kind if one.name == kind.name else one for one in self._kinds], self._functions)

    def points(self):
        """The sorted list of all points of all functions."""
        return sorted(list(self._flow.point_at))

    def laid_out(self):
        """How the program is laid out in points, for those who run it."""
        return self._flow

    def __eq__(self, other):
        return isinstance(other, Program) and self._kinds == other._kinds and self._functions == other._functions
