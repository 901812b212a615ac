"""Classes built of other objects: what they answer, and the kinds that answer just as they do."""

from rightstate.bodies import Reader
from rightstate.calls import Answers, Play
from rightstate.choices import check_choices, check_most
from rightstate.errors import BadBuilt, NoMethod, TooMany
from rightstate.flows import Flow
from rightstate.forms import are_unlike_names, is_name, is_pair, is_row
from rightstate.kinds import MOST_METHODS, MOST_OUTCOMES, MOST_STATES, Kind, are_kinds
from rightstate.naming import state_name
from rightstate.steps import Rules

MOST_FIELDS = 3
MOST_CALLS = 100

# The first words of all statements that may stand in methods.
WORDS = ("new", "copy", "none", "call", "test", "same", "has", "maybe", "loop", "leave", "again", "try", "with",
         "raise", "wait", "say")


class MethodReader(Reader):
    """Reads the bodies of the methods of a built class."""

    def refuse(self, place):
        """Raises the error that tells this place."""
        raise BadBuilt(place)


def _check_parts(name, kinds, fields, methods):
    if not is_name(name) or not are_kinds(kinds) or not are_unlike_names(fields) or not 1 <= len(fields) <= MOST_FIELDS:
        raise BadBuilt(())
    if not is_row(methods) or not 1 <= len(methods) <= MOST_METHODS:
        raise BadBuilt(())
    ahead = {}
    for number, method in enumerate(methods):
        if not is_pair(method) or not is_name(method[0]) or method[0] in ahead or not is_row(method[1]):
            raise BadBuilt((number,))
        ahead[method[0]] = True


class Built:
    """A class built of other objects; it never changes."""

    def __init__(self, name, kinds, fields, methods):
        _check_parts(name, kinds, fields, methods)
        reader = MethodReader(WORDS, {kind.name: True for kind in kinds}, {})
        read = [reader.read(number, fields, body) for number, (_, body) in enumerate(methods)]
        self._name = name
        self._kinds = tuple(kinds)
        self._fields = tuple(fields)
        self._methods = tuple([(method, body) for (method, _), (_, body) in zip(methods, read)])
        self._variable_rows = [variables for variables, _ in read]

    @property
    def name(self):
        """The name of the class."""
        return self._name

    def kinds(self):
        """The list of the kinds."""
        return list(self._kinds)

    def fields(self):
        """The list of the fields."""
        return list(self._fields)

    def methods(self):
        """The list of the methods, as tuples (method, body)."""
        return list(self._methods)

    def laid_out(self):
        """How the methods are laid out in points, for those who call them."""
        functions = [(method, self._fields, body) for method, body in self._methods]
        return Flow(self._kinds, functions, self._variable_rows, None, "done")

    def __eq__(self, other):
        return (isinstance(other, Built) and self._name == other._name and self._kinds == other._kinds
                and self._fields == other._fields and self._methods == other._methods)


class Inference:
    """The shapes to which calls can lead, named in the order in which they are found, and the moves between them."""

    def __init__(self, built):
        self._flow = built.laid_out()
        self._rules = Rules(self._flow, {})
        first = ((0,) * len(built.fields()), ())
        self.name_by_shape = {first: state_name(0)}
        self.found = [first]
        self.move_rows = {}
        done = 0
        while done < len(self.found):
            for method in sorted(list(self._flow.numbers)):
                self._call(method, self.found[done])
            done += 1

    def _call(self, method, shape):
        """Finds the move of a method from a shape, if it has one."""
        answers = Answers(self._rules, self._flow.numbers[method], shape)
        if answers.wrong:
            return
        outcomes = sorted(list(answers.given))
        if len(outcomes) > MOST_OUTCOMES:
            raise TooMany(MOST_OUTCOMES)
        for _, behind in outcomes:
            self._meet(behind)
        row = [(word, self.name_by_shape[behind]) for word, behind in outcomes]
        self.move_rows[self.name_by_shape[shape], method] = row

    def _meet(self, shape):
        if shape not in self.name_by_shape:
            if len(self.found) == MOST_STATES:
                raise TooMany(MOST_STATES)
            self.name_by_shape[shape] = state_name(len(self.found))
            self.found.append(shape)

    def is_end(self, shape):
        """Whether an object of this shape may be dropped."""
        return all([state in self._flow.kind_by_name[kind].ends for kind, state in shape[1]])


def inferred(built):
    """The kind of a built class: it answers just as the class does."""
    found = Inference(built)
    ends = [found.name_by_shape[shape] for shape in found.found if found.is_end(shape)]
    return Kind(built.name, state_name(0), ends, found.move_rows)


def shapes(built):
    """The dict from the states of the inferred kind to their shapes."""
    found = Inference(built)
    return {found.name_by_shape[shape]: shape for shape in found.found}


def _check_methods(built, methods):
    if not is_row(methods) or len(methods) > MOST_CALLS:
        raise NoMethod(-1)
    known = [method for method, _ in built.methods()]
    for index, method in enumerate(methods):
        if not is_name(method) or method not in known:
            raise NoMethod(index)


def played(built, methods, choices, *, most=500):
    """What one object answers if these methods are called one after the other, and how that is over."""
    _check_methods(built, methods)
    check_choices(choices)
    check_most(most)
    flow = built.laid_out()
    play = Play(Rules(flow, {}), choices, most)
    shape = ((0,) * len(built.fields()), ())
    answers = []
    for index, method in enumerate(methods):
        what, told, behind = play.call(flow.numbers[method], shape)
        if what == "wrong":
            return answers, ("wrong", index, told, behind)
        if what != "over":
            return answers, (what,)
        answers.append((method, told, behind))
        shape = behind
    return answers, ("ended",)
