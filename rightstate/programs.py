"""Programs: kinds, and functions that make objects of them and call their methods."""

from rightstate.bodies import Reader
from rightstate.errors import BadProgram, NoFunction, NoKind
from rightstate.flows import Flow
from rightstate.forms import are_unlike_names, is_name, is_row
from rightstate.kinds import Kind, are_kinds

MOST_FUNCTIONS = 6
MOST_PARAMS = 3
# The first words of all statements that may stand in functions.
WORDS = ("new", "copy", "none", "call", "test", "same", "has", "maybe", "loop", "leave", "again", "try", "with", "run",
         "return", "raise", "wait")


def _is_function(thing):
    if not is_row(thing) or len(thing) != 3:
        return False
    name, params, body = thing
    return is_name(name) and are_unlike_names(params) and len(params) <= MOST_PARAMS and is_row(body)


def _counts_of(functions):
    """The dict from the names of the functions to how many params they have."""
    counts = {}
    for number, function in enumerate(functions):
        if not _is_function(function) or function[0] in counts:
            raise BadProgram((number,))
        counts[function[0]] = len(function[1])
    return counts


class ProgramReader(Reader):
    """Reads the bodies of the functions of a program."""

    def refuse(self, place):
        """Raises the error that tells this place."""
        raise BadProgram(place)


def _read_program(kinds, functions):
    """A pair: the functions in tuples, and the lists of their variables."""
    if not are_kinds(kinds) or not is_row(functions) or not 1 <= len(functions) <= MOST_FUNCTIONS:
        raise BadProgram(())
    counts = _counts_of(functions)
    if counts.get("main") != 0:
        raise BadProgram(())
    # No function runs main.
    others = {name: counts[name] for name in counts if name != "main"}
    reader = ProgramReader(WORDS, {kind.name: True for kind in kinds}, others)
    told = []
    variable_rows = []
    for number, (name, params, body) in enumerate(functions):
        variables, block = reader.read(number, params, body)
        told.append((name, tuple(params), block))
        variable_rows.append(variables)
    return tuple(told), variable_rows


class Program:
    """Kinds and functions; it never changes."""

    def __init__(self, kinds, functions):
        self._functions, self._variable_rows = _read_program(kinds, functions)
        self._kinds = tuple(kinds)
        # Laid out when it is asked for.
        self._flow = None

    def kinds(self):
        """The list of the kinds."""
        return list(self._kinds)

    def functions(self):
        """The list of the functions, as tuples (name, params, body)."""
        return list(self._functions)

    def kind_of(self, name):
        """The kind with this name."""
        for kind in self._kinds:
            if is_name(name) and kind.name == name:
                return kind
        raise NoKind(name)

    def variables(self, function):
        """The list of the variables of the function with this name, the parameters first."""
        return list(self._variable_rows[self.number_of(function)])

    def number_of(self, function):
        """The number of the function with this name."""
        for number, (name, _, _) in enumerate(self._functions):
            if is_name(function) and name == function:
                return number
        raise NoFunction(function)

    def replaced(self, kind):
        """The program with this kind in the place of that with the same name."""
        if not isinstance(kind, Kind):
            raise NoKind(kind)
        self.kind_of(kind.name)
        return Program([kind if one.name == kind.name else one for one in self._kinds], self._functions)

    def points(self):
        """The sorted list of all points of all functions."""
        return self.laid_out().places()

    def laid_out(self):
        """How the program is laid out in points, for those who run it."""
        if self._flow is None:
            self._flow = Flow(self._kinds, self._functions, self._variable_rows, self.number_of("main"), "over")
        return self._flow

    def __eq__(self, other):
        return isinstance(other, Program) and self._kinds == other._kinds and self._functions == other._functions
