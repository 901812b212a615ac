"""Shortest runs: to what goes wrong, and to rows."""

from heapq import heappop, heappush

from rightstate.errors import TooLong
from rightstate.forms import frozen, is_plain
from rightstate.readings import ROW_DEPTH
from rightstate.search import table_search

MOST_STEPS = 400
ROW = 0
EXIT = 1


class Distances:
    """The fewest steps to each row that was found, and a way of so few steps.

    The way to a row leads to the begin of its activation, and then goes on within it. Within an activation, what
    it runs is passed at once, from the row that runs it to the row behind; the steps of what it runs are counted.
    """

    def __init__(self, search):
        self._search = search
        # Within the activation of the row or exit, from its begin on.
        self._row_steps = {}
        self._exit_steps = {}
        # (row ahead, choice, exit that is passed) of rows, -1 for what there is not; the row ahead of exits.
        self._row_ahead = {}
        self._over_row = {}
        # The rows that run each activation, as far as their steps are known.
        self._runners = {}
        self._queue = [(0, ROW, row, -1, -1, -1) for row in search.begin_rows]
        while self._queue:
            self._settle()
        # From the begin of the run to the begins of the activations, and the rows that run them.
        self._begin_steps = {}
        self._run_row = {}
        self._measure_begins()

    def _settle(self):
        """What comes first out of the queue is reached by the fewest steps."""
        steps, sort, number, ahead, choice, passed = heappop(self._queue)
        if sort == EXIT and number not in self._exit_steps:
            self._exit_steps[number] = steps
            self._over_row[number] = ahead
            activation, _ = self._search.found_exits[number]
            for row in self._runners.get(activation, []):
                self._pass(row, number)
        elif sort == ROW and number not in self._row_steps:
            self._row_steps[number] = steps
            self._row_ahead[number] = (ahead, choice, passed)
            for way, what, target in self._search.links[number]:
                self._go_on(number, way, what, target)

    def _go_on(self, row, choice, what, target):
        steps = self._row_steps[row] + 1
        if what == "row":
            heappush(self._queue, (steps, ROW, target, row, choice, -1))
        elif what == "over":
            heappush(self._queue, (steps, EXIT, target, row, choice, -1))
        elif what == "run":
            self._runners.setdefault(target, []).append(row)
            for passed in self._search.returns[row]:
                if passed in self._exit_steps:
                    self._pass(row, passed)

    def _pass(self, row, passed):
        """From the row that runs an activation to the row behind this exit of it."""
        steps = self._row_steps[row] + 1 + self._exit_steps[passed]
        heappush(self._queue, (steps, ROW, self._search.returns[row][passed], row, -1, passed))

    def _measure_begins(self):
        rows_of = [[] for _ in self._search.activations]
        for activation in self._runners:
            for row in self._runners[activation]:
                rows_of[self._activation_of(row)].append((row, activation))
        queue = [(0, 0, -1)]
        while queue:
            steps, activation, ahead = heappop(queue)
            if activation not in self._begin_steps:
                self._begin_steps[activation] = steps
                self._run_row[activation] = ahead
                for row, other in rows_of[activation]:
                    heappush(queue, (steps + self._row_steps[row] + 1, other, row))

    def _activation_of(self, row):
        return self._search.found_rows[row][0]

    def steps_to(self, row):
        """The fewest steps behind which a run stands at this row."""
        return self._begin_steps[self._activation_of(row)] + self._row_steps[row]

    def choices_to(self, row):
        """The list of the choices of a run of so few steps to this row."""
        found = []
        while row != -1:
            found.extend(self._choices_within(row))
            row = self._run_row[self._activation_of(row)]
        found.reverse()
        return found

    def _choices_within(self, row):
        """The choices from the begin of an activation to one of its rows, the last one first."""
        found = []
        waiting = [row]
        while waiting:
            ahead, choice, passed = self._row_ahead[waiting.pop()]
            if choice != -1:
                found.append(choice)
            if ahead != -1:
                waiting.append(ahead)
            if passed != -1:
                waiting.append(self._over_row[passed])
        return found

    def first_wrong(self):
        """(steps, place, why, row, choice) of the first of the shortest runs that go wrong; None if none does."""
        found = []
        for row, links in enumerate(self._search.links):
            for choice, what, target in links:
                if what == "wrong":
                    found.append((self.steps_to(row) + 1, self._search.place_of(row), target, row, choice))
        return min(found) if found else None


def steps_to_wrong(program, *, guards=()):
    """(steps, place, why) of the shortest runs that go wrong, the first one of these; None if no run does."""
    first = Distances(table_search(program, guards)).first_wrong()
    if first is None:
        return None
    steps, place, why, _, _ = first
    return (steps, place, why)


def wrong_run(program, *, guards=()):
    """The tuple of the choices of a run that goes wrong as steps_to_wrong tells; None if no run does."""
    found = Distances(table_search(program, guards))
    first = found.first_wrong()
    if first is None:
        return None
    steps, _, _, row, choice = first
    if steps > MOST_STEPS:
        raise TooLong(steps)
    choices = found.choices_to(row)
    return tuple(choices if choice == -1 else choices + [choice])


def run_to(program, row, *, guards=()):
    """The fewest steps behind which a run stands at this row, and the choices of it; None if no run does."""
    search = table_search(program, guards)
    number = _number_of(search, row)
    if number is None:
        return None
    found = Distances(search)
    steps = found.steps_to(number)
    if steps > MOST_STEPS:
        raise TooLong(steps)
    return (steps, tuple(found.choices_to(number)))


def _number_of(search, row):
    if not is_plain(row, ROW_DEPTH):
        return None
    told = frozen(row)
    return search.number_of(told) if isinstance(told, tuple) and len(told) == 4 else None
