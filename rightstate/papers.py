"""Papers: rows and exits that show that no run of a program goes wrong."""

from rightstate.configs import begin_config, behind_run, config_behind, exit_of, handed
from rightstate.errors import NotSafe
from rightstate.forms import is_row
from rightstate.readings import read_exit, read_row
from rightstate.steps import results_of, rules_of
from rightstate.tables import table


class Paper:
    """The rows and exits of a paper, each of them right by itself, as they are judged by the rules of a program."""

    def __init__(self, rules, rows, exits):
        self._rules = rules
        self._rows = rows
        self._known = {row: True for row in rows}
        self._known_exits = {told: True for told in exits}
        self._ways = {}
        for function, entry, way in exits:
            self._ways.setdefault((function, entry), []).append(way)

    def fault(self):
        """The first thing that is wrong, or None."""
        flow = self._rules.flow
        if self._begin_row(flow.main, ((), ())) not in self._known:
            return ("begin",)
        for index in range(len(self._rows)):
            fault = self._fault_at(index)
            if fault is not None:
                return fault
        return None

    def _begin_row(self, number, entry):
        flow = self._rules.flow
        return (flow.function_names[number], entry, flow.begin_of(number).place, begin_config(flow, number, entry))

    def _fault_at(self, index):
        function, entry, place, config = self._rows[index]
        refs, objects, pending = config
        olds = tuple(range(1, len(entry[1]) + 1))
        point = self._rules.flow.point_at(place)
        for result in results_of(self._rules, point, refs, pending, objects, olds):
            what, where, values, _, _, _ = result
            if what == "wrong":
                return ("wrong", index, where)
            if what == "over":
                way = exit_of(where, values[0], olds, objects)
                if (function, entry, way) not in self._known_exits:
                    return ("exit", index, way)
            for row in self._rows_behind(index, olds, result):
                if row not in self._known:
                    return ("step", index, row)
        return None

    def _rows_behind(self, index, olds, result):
        """The list of the rows to which an option of the step of a row leads, in their order."""
        function, entry, place, config = self._rows[index]
        what, where, values, _, _, _ = result
        if what == "go":
            return [(function, entry, where.place, config_behind(config, olds, result))]
        if what != "run":
            return []
        handed_entry, handed_olds = handed(values, config[1])
        found = [self._begin_row(where, handed_entry)]
        point = self._rules.flow.point_at(place)
        for way in self._ways.get((self._rules.flow.function_names[where], handed_entry), []):
            behind, config_then = behind_run(point, config, handed_olds, way)
            found.append((function, entry, behind.place, config_then))
        return found


def _read_all(read, flow, things):
    """A pair: what is read of a row of things, and the index of the first one that is wrong, or None."""
    if not is_row(things):
        return [], -1
    found = []
    for index, thing in enumerate(things):
        told = read(flow, thing)
        if told is None:
            return found, index
        found.append(told)
    return found, None


def paper_fault(program, rows, exits, *, guards=()):
    """None if the paper shows that no run goes wrong; otherwise the first thing that is wrong with it."""
    rules = rules_of(program, guards)
    read_rows, index = _read_all(read_row, rules.flow, rows)
    if index is not None:
        return ("rows", index)
    read_exits, index = _read_all(read_exit, rules.flow, exits)
    if index is not None:
        return ("exits", index)
    return Paper(rules, read_rows, read_exits).fault()


def paper_of(program, *, guards=()):
    """The rows and the exits of the table of a safe program, both sorted."""
    found = table(program, guards=guards)
    if not found.is_safe():
        place, why = found.wrongs()[0]
        raise NotSafe(place, why)
    exits = []
    for function, entry in found.entries():
        exits.extend([(function, entry, way) for way in found.exits(function, entry)])
    return found.rows(), exits
