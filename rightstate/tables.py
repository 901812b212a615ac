"""Tables: all rows that can come in runs of a program, and all exits of its functions."""

from rightstate.errors import BadEntry, NoEntry
from rightstate.forms import frozen, is_plain
from rightstate.readings import ENTRY_DEPTH, ROW_DEPTH, read_entry
from rightstate.search import Search
from rightstate.steps import rules_of


class Table:
    """Rows, exits and what goes wrong; it never changes."""

    def __init__(self, rows, exits, wrongs):
        self._rows = rows
        self._exits = exits
        self._wrongs = wrongs
        self._known = {row: True for row in rows}

    def rows(self):
        """The sorted list of the rows."""
        return list(self._rows)

    def entries(self):
        """The sorted list of all (function, entry) of the rows."""
        return sorted(list(self._exits))

    def exits(self, function, entry):
        """The sorted list of the exits of a function and an entry."""
        if not isinstance(function, str) or not is_plain(entry, ENTRY_DEPTH):
            raise NoEntry()
        told = (function, frozen(entry))
        if told not in self._exits:
            raise NoEntry()
        return list(self._exits[told])

    def wrongs(self):
        """The sorted list of all (place, why) of steps that go wrong."""
        return list(self._wrongs)

    def is_safe(self):
        """Whether no step goes wrong."""
        return len(self._wrongs) == 0

    def __contains__(self, x):
        """Whether there is this row."""
        # True is no 1 here, and no list a tuple; what cannot be hashed may be asked for, too.
        return is_plain(x, ROW_DEPTH) and frozen(x) == x and x in self._known

    def __len__(self):
        return len(self._rows)

    def __eq__(self, other):
        return (isinstance(other, Table) and self._rows == other._rows and self._exits == other._exits
                and self._wrongs == other._wrongs)


def _table_of(search):
    """The table of what was found."""
    rows = sorted([search.told_row(row) for row in range(len(search.found_rows))])
    exits = {}
    for activation in range(len(search.activations)):
        exits[search.told_activation(activation)] = sorted(search.exits_of(activation))
    wrongs = sorted({(search.place_of(row), target) for row, links in enumerate(search.links)
                     for _, what, target in links if what == "wrong"})
    return Table(rows, exits, wrongs)


def table(program, *, guards=()):
    """The table of all that can come in runs of a program."""
    return summary(program, "main", ((), ()), guards=guards)


def summary(program, function, entry, *, guards=()):
    """The table of all that can come if a function is run with an entry."""
    number = program.number_of(function)
    told = read_entry(program.laid_out(), number, entry)
    if told is None:
        raise BadEntry()
    search = Search(rules_of(program, guards))
    search.explore(number, told)
    return _table_of(search)
