"""Walks: single runs of a program, by choices that are told."""

from rightstate.choices import check_choices, check_most, check_number
from rightstate.configs import handed, numbered
from rightstate.steps import landing, results_of, rules_of

MOST_CHOICES = 12


class Activation:
    """An activation as it stands at one moment; it never changes.

    olds are the numbers of the objects that were handed to it, in the order of its entry.
    """

    def __init__(self, function, entry, olds, point, refs, pending):
        self.function = function
        self.entry = entry
        self.olds = olds
        self.point = point
        self.refs = refs
        self.pending = pending

    def moved(self, point, refs, pending):
        """The same activation at another moment."""
        return Activation(self.function, self.entry, self.olds, point, refs, pending)


class Machine:
    """A run as it stands: its activations and its objects.

    made is how many steps it made, answered what its calls of methods were, and over how it is over, or None.
    """

    def __init__(self, rules):
        self._rules = rules
        self._stack = []
        self.things = []
        self.made = 0
        self.answered = []
        self.over = None
        self._begin(rules.flow.main, ())

    def twin(self):
        """Another machine that stands as this one does."""
        twin = Machine(self._rules)
        twin.put(self._stack, self.things, self.made, self.answered)
        return twin

    def put(self, stack, things, made, answered):
        """Stands as another machine stands that is not over."""
        self._stack = list(stack)
        self.things = list(things)
        self.made = made
        self.answered = list(answered)

    def stands_at(self):
        """The place of the point at which the run stands."""
        return self._stack[-1].point.place

    def row(self):
        """The row at which the run stands."""
        top = self._stack[-1]
        config = numbered(top.refs, top.pending, top.olds, self.things)
        return (self._rules.flow.function_names[top.function], top.entry, top.point.place, config)

    def results(self):
        """The results of the next step, one for each option."""
        top = self._stack[-1]
        return results_of(self._rules, top.point, top.refs, top.pending, self.things, top.olds)

    def make(self, result):
        """Makes the next step, with this result."""
        self.made += 1
        what, where, refs, pending, change, word = result
        if change is not None:
            self._change(change)
        if word is not None:
            self._answer(change, word)
        if what == "go":
            self._stack[-1] = self._stack[-1].moved(where, refs, pending)
        elif what == "run":
            self._begin(where, refs)
        elif what == "over":
            self._finish(where, refs[0])
        elif what == "wrong":
            self.over = ("wrong", self.stands_at(), where)
        else:
            self.over = ("waits",)

    def _change(self, change):
        number, thing = change
        if number > len(self.things):
            self.things.append(thing)
        else:
            self.things[number - 1] = thing

    def _answer(self, change, word):
        number, (_, state) = change
        method = self._stack[-1].point.parts[1]
        self.answered.append((number - 1, method, word, state))

    def _begin(self, function, values):
        entry, olds = handed(values, self.things)
        flow = self._rules.flow
        refs = values + (0,) * (flow.size_of(function) - len(values))
        self._stack.append(Activation(function, entry, olds, flow.begin_of(function), refs, ()))

    def _finish(self, how, value):
        """The last activation is over; the one that ran it goes on, if there is one."""
        self._stack.pop()
        if len(self._stack) == 0:
            self.over = ("ended",) if how == "return" else ("raised", how)
            return
        top = self._stack[-1]
        if how == "return":
            self._stack[-1] = top.moved(top.point, top.refs, ("take", value))
        else:
            where, pending = landing(top.point.around, how)
            self._stack[-1] = top.moved(where, top.refs, pending)


class Walk:
    """A run and what it did; it never changes."""

    def __init__(self, machine, choices, most):
        self._places = []
        self._rows = []
        self._used = 0
        self._end = None
        while self._end is None:
            self._go_on(machine, choices, most)
        self._steps = machine.made
        self._calls = machine.answered
        self._objects = machine.things

    def _go_on(self, machine, choices, most):
        """Makes the next step, or finds how the run is over."""
        if machine.over is not None:
            self._end = machine.over
            return
        self._rows.append(machine.row())
        results = machine.results() if machine.made < most else []
        if not results:
            self._end = ("spent",)
        elif len(results) > 1 and self._used == len(choices):
            self._end = ("open",)
        else:
            option = 0
            if len(results) > 1:
                option = choices[self._used] % len(results)
                self._used += 1
            self._places.append(machine.stands_at())
            machine.make(results[option])

    def end(self):
        """How the run is over."""
        return self._end

    def used(self):
        """How many choices were taken."""
        return self._used

    def steps(self):
        """How many steps were made."""
        return self._steps

    def places(self):
        """The list of the points of the steps."""
        return list(self._places)

    def calls(self):
        """The list of the calls that were answered: (object, method, word, state)."""
        return list(self._calls)

    def objects(self):
        """The list of (kind, state) of all objects that were made."""
        return list(self._objects)

    def rows(self):
        """The list of the rows at which the steps were made, and at which the run stands if it is not over."""
        return list(self._rows)


def walk(program, choices, *, most=500, guards=()):
    """The walk of the run that these choices tell."""
    check_choices(choices)
    check_most(most)
    return Walk(Machine(rules_of(program, guards)), choices, most)


def _options(machine, most):
    """Goes on until a choice is wanted, and returns the results of it; [] if the run is over or spent."""
    while machine.over is None and machine.made < most:
        results = machine.results()
        if len(results) > 1:
            return results
        machine.make(results[0])
    return []


def runs(program, many, *, most=500, guards=()):
    """Tells (choices, end) of all runs that are over, spent, or open behind so many choices, in their order."""
    check_number(many, 0, MOST_CHOICES)
    check_most(most)
    waiting = [((), Machine(rules_of(program, guards)))]
    while waiting:
        choices, machine = waiting.pop()
        results = _options(machine, most)
        if results and len(choices) < many:
            for option in reversed(range(len(results))):
                twin = machine.twin()
                twin.make(results[option])
                waiting.append((choices + (option,), twin))
        elif results:
            yield (choices, ("open",))
        else:
            yield (choices, machine.over or ("spent",))
