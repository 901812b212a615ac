"""Kinds: states, methods, and what a method answers in a state."""

from rightstate.errors import BadHistory, BadKind
from rightstate.forms import are_unlike_names, is_name, is_pair, is_row, is_word

# Of one program.
MOST_KINDS = 4
MOST_STATES = 60
MOST_METHODS = 8
MOST_OUTCOMES = 8


def _is_key(thing):
    # Only texts are looked up: what cannot be hashed may be asked for, too.
    return isinstance(thing, tuple) and len(thing) == 2 and isinstance(thing[0], str) and isinstance(thing[1], str)


def _are_rows(moves):
    if not isinstance(moves, dict) or not all([_is_key(key) for key in moves]):
        return False
    return not [row for row in moves.values() if not isinstance(row, (list, tuple)) or len(row) > MOST_OUTCOMES]


def _with_tuples(moves):
    """The same moves, with tuples in the place of those outcomes that are lists."""
    return {key: [tuple(one) if isinstance(one, list) else one for one in moves[key]] for key in moves}


def _pairs_of_texts(rows):
    """Those outcomes of all rows that are tuples of two texts, in one list."""
    # There may be thousands of outcomes: no function is called for each of them.
    return [one for row in rows for one in row if isinstance(one, tuple) and len(one) == 2
            and isinstance(one[0], str) and isinstance(one[1], str)]


def _are_right(words, states, methods):
    """Whether these are words, not too many states, and not too many methods."""
    if len(states) > MOST_STATES or len(methods) > MOST_METHODS or not all([is_word(word) for word in words]):
        return False
    return all([is_name(name) for name in states]) and all([is_name(name) for name in methods])


def _read_moves(moves, start, ends):
    """The states, the methods, and the moves with sorted tuples of outcomes.

    The same names and words come again and again in the moves; each of them is looked at but once.
    """
    if not _are_rows(moves):
        raise BadKind("moves")
    many = sum([len(row) for row in moves.values()])
    pairs = _pairs_of_texts(list(moves.values()))
    if len(pairs) != many:
        moves = _with_tuples(moves)
        pairs = _pairs_of_texts(list(moves.values()))
    if len(pairs) != many:
        raise BadKind("moves")
    behind = sorted({state for _, state in pairs})
    states = sorted(set([start] + list(ends) + [state for state, _ in moves] + behind))
    methods = sorted({method for _, method in moves})
    if not _are_right(sorted({word for word, _ in pairs}), states, methods):
        raise BadKind("moves")
    if [row for row in moves.values() if len(set(row)) != len(row)]:
        raise BadKind("moves")
    return states, methods, {key: tuple(sorted(row)) for key, row in moves.items()}


def _check_parts(name, start, ends):
    if not is_name(name):
        raise BadKind("name")
    if not is_name(start):
        raise BadKind("start")
    if not are_unlike_names(ends):
        raise BadKind("ends")


class Kind:
    """A kind of objects; it never changes."""

    def __init__(self, name, start, ends, moves):
        _check_parts(name, start, ends)
        self._name = name
        self._start = start
        self._ends = tuple(sorted(ends))
        self._states, self._methods, self._moves = _read_moves(moves, start, ends)

    @property
    def name(self):
        """The name of the kind."""
        return self._name

    @property
    def start(self):
        """The state in which a new object is."""
        return self._start

    @property
    def ends(self):
        """The sorted tuple of the states in which an object may be dropped."""
        return self._ends

    def states(self):
        """The sorted list of all states."""
        return list(self._states)

    def methods(self):
        """The sorted list of all methods."""
        return list(self._methods)

    def moves(self):
        """The dict of all moves, from (state, method) to the sorted tuple of outcomes (word, state)."""
        return {key: self._moves[key] for key in sorted(self._moves)}

    def renamed(self, name):
        """The same kind with another name."""
        return Kind(name, self._start, self._ends, self._moves)

    def __getitem__(self, at):
        """The outcomes of (state, method); None if the method is barred or this is no such pair."""
        if _is_key(at):
            return self._moves.get(at)
        return None

    def __contains__(self, x):
        """Whether there is a move of (state, method)."""
        return _is_key(x) and x in self._moves

    def __iter__(self):
        raise TypeError("a kind is not iterated over")

    def __eq__(self, other):
        return (isinstance(other, Kind) and self._name == other._name and self._start == other._start
                and self._ends == other._ends and self._moves == other._moves)


def are_kinds(thing):
    """Whether this is a row of kinds with unlike names, as a program has them."""
    if not is_row(thing) or not 1 <= len(thing) <= MOST_KINDS:
        return False
    return all([isinstance(one, Kind) for one in thing]) and len({kind.name for kind in thing}) == len(thing)


def _check_history(history):
    if not is_row(history):
        raise BadHistory(-1)
    for index, call in enumerate(history):
        if not is_pair(call) or not is_name(call[0]) or not is_word(call[1]):
            raise BadHistory(index)


def _states_behind(kind, states, method, word):
    found = []
    for state in states:
        found.extend([behind for told, behind in kind[state, method] or () if told == word])
    return sorted(set(found))


def after(kind, history):
    """The sorted list of the states in which an object can be behind the history; [] if it cannot come."""
    _check_history(history)
    states = [kind.start]
    for method, word in history:
        states = _states_behind(kind, states, method, word)
    return states


def allowed(kind, history):
    """The sorted list of the methods that are barred in none of the states behind the history."""
    states = after(kind, history)
    return [method for method in kind.methods() if all([(state, method) in kind for state in states])]
