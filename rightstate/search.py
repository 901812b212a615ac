"""The search for all rows and exits that can come if a function is run with an entry."""

from rightstate.configs import begin_config, behind_run, config_behind, exit_of, handed
from rightstate.errors import TooMany
from rightstate.forms import are_integers
from rightstate.steps import results_of, rules_of

MOST_ROWS = 4000


class Search:
    """All that comes behind the begins of the activations that are explored, each thing found once and for all.

    Everything has a number, in the order in which it was found:

    - activations: pairs (number of the function, entry); begin_rows are the numbers of the rows at which they begin.
    - rows: tuples (activation, point, config). links are for each row the list of what comes of its options,
      tuples (choice, what, target), choice being -1 if it has but one option: ("row", row), ("over", exit),
      ("run", activation), ("wrong", why), ("waits", None).
    - exits: pairs (activation, exit).
    - returns: for each row that runs an activation the dict from the numbers of its exits to the rows behind them.
    """

    def __init__(self, rules):
        self._rules = rules
        self.activations = []
        self.begin_rows = []
        self.found_rows = []
        self.links = []
        self.found_exits = []
        self.returns = {}
        self._activation_numbers = {}
        self._row_numbers = {}
        self._exit_numbers = {}
        # For each activation: the numbers of its entry's objects in its rows; the rows that run it, with the
        # numbers that the objects which they hand over have there; and the numbers of its exits.
        self._olds = []
        self._callers = []
        self._exits = []
        self._done = 0
        self._bound = 0

    def explore(self, number, entry):
        """Finds all that comes if a function is run with an entry; the number of this activation.

        Of what was not found ahead there may be as many rows as a table may have.
        """
        self._bound = len(self.found_rows) + MOST_ROWS
        begun = self._activation((number, entry))
        while self._done < len(self.found_rows):
            self._explore(self._done)
            self._done += 1
        return begun

    def results_at(self, point, config, olds):
        """The results of the step of an activation that stands so."""
        refs, objects, pending = config
        return results_of(self._rules, point, refs, pending, objects, olds)

    def _activation(self, told):
        """The number of an activation; a new one begins."""
        if told in self._activation_numbers:
            return self._activation_numbers[told]
        made = len(self.activations)
        self._activation_numbers[told] = made
        self.activations.append(told)
        self._olds.append(tuple(range(1, len(told[1][1]) + 1)))
        self._callers.append([])
        self._exits.append([])
        number, entry = told
        flow = self._rules.flow
        self.begin_rows.append(self._row(made, flow.begin_of(number), begin_config(flow, number, entry)))
        return made

    def _row(self, activation, point, config):
        """The number of a row."""
        row = (activation, point, config)
        if row in self._row_numbers:
            return self._row_numbers[row]
        made = len(self.found_rows)
        if made == self._bound:
            raise TooMany(MOST_ROWS)
        self._row_numbers[row] = made
        self.found_rows.append(row)
        self.links.append([])
        return made

    def _explore(self, row):
        activation, point, config = self.found_rows[row]
        results = self.results_at(point, config, self._olds[activation])
        for option, result in enumerate(results):
            choice = option if len(results) > 1 else -1
            what, target = self._reached(row, result)
            self.links[row].append((choice, what, target))

    def _reached(self, row, result):
        """What an option of the step of a row leads to, and which one."""
        activation, _, config = self.found_rows[row]
        olds = self._olds[activation]
        what, where, refs, _, _, _ = result
        if what == "go":
            return "row", self._row(activation, where, config_behind(config, olds, result))
        if what == "run":
            return "run", self._ran(row, where, refs)
        if what == "over":
            return "over", self._ended(activation, exit_of(where, refs[0], olds, config[1]))
        return what, where

    def _ran(self, row, number, values):
        """The activation that a row runs."""
        entry, olds = handed(values, self.found_rows[row][2][1])
        made = self._activation((number, entry))
        self.returns[row] = {}
        self._callers[made].append((row, olds))
        for number_of_exit in self._exits[made]:
            self._return(row, olds, number_of_exit)
        return made

    def _ended(self, activation, told):
        """The number of an exit; a new one leads on from all rows that ran the activation."""
        if (activation, told) in self._exit_numbers:
            return self._exit_numbers[activation, told]
        made = len(self.found_exits)
        self._exit_numbers[activation, told] = made
        self.found_exits.append((activation, told))
        self._exits[activation].append(made)
        for row, olds in self._callers[activation]:
            self._return(row, olds, made)
        return made

    def _return(self, row, olds, number_of_exit):
        activation, point, config = self.found_rows[row]
        where, behind = behind_run(point, config, olds, self.found_exits[number_of_exit][1])
        self.returns[row][number_of_exit] = self._row(activation, where, behind)

    def told_activation(self, activation):
        """The pair (function, entry) of this activation."""
        number, entry = self.activations[activation]
        return (self._rules.flow.function_names[number], entry)

    def told_row(self, row):
        """The row of this number, as the document tells rows."""
        activation, point, config = self.found_rows[row]
        return self.told_activation(activation) + (point.place, config)

    def place_of(self, row):
        """The place of the row of this number."""
        return self.found_rows[row][1].place

    def exits_of(self, activation):
        """The list of the exits of this activation."""
        return [self.found_exits[one][1] for one in self._exits[activation]]

    def number_of(self, told):
        """The number of the row that is told so, in tuples; None if it was not found."""
        function, entry, place, config = told
        flow = self._rules.flow
        point = flow.point_at(place) if are_integers(place) else None
        activation = self._activation_numbers.get((flow.numbers.get(function), entry))
        return self._row_numbers.get((activation, point, config))


def table_search(program, guards):
    """The search for all that can come in runs of a program with these guards."""
    rules = rules_of(program, guards)
    search = Search(rules)
    search.explore(rules.flow.main, ((), ()))
    return search
