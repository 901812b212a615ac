"""Kinds: states, methods, and what a method answers in a state."""

from rightstate.errors import BadHistory, BadKind
from rightstate.forms import are_unlike_names, is_name, is_pair, is_row, is_word

MOST_STATES = 60
MOST_METHODS = 8
MOST_OUTCOMES = 8


def _is_key(thing):
    # Only texts are looked up: what cannot be hashed may be asked for, too.
    return isinstance(thing, tuple) and len(thing) == 2 and isinstance(thing[0], str) and isinstance(thing[1], str)


def _are_outcomes(thing):
    if not is_row(thing) or len(thing) > MOST_OUTCOMES:
        return False
    if not all([is_pair(one) and is_word(one[0]) and is_name(one[1]) for one in thing]):
        return False
    return len({(word, state) for word, state in thing}) == len(thing)


def _is_move(key, outcomes):
    return _is_key(key) and is_name(key[0]) and is_name(key[1]) and _are_outcomes(outcomes)


def _states_of(start, ends, moves):
    found = [start] + list(ends)
    for state, method in moves:
        found.append(state)
        found.extend([behind for _, behind in moves[state, method]])
    return sorted(set(found))


def _methods_of(moves):
    return sorted({method for _, method in moves})


def _are_moves(moves, start, ends):
    if not isinstance(moves, dict) or not all([_is_move(key, moves[key]) for key in moves]):
        return False
    return len(_states_of(start, ends, moves)) <= MOST_STATES and len(_methods_of(moves)) <= MOST_METHODS


def _check_parts(name, start, ends, moves):
    if not is_name(name):
        raise BadKind("name")
    if not is_name(start):
        raise BadKind("start")
    if not are_unlike_names(ends):
        raise BadKind("ends")
    if not _are_moves(moves, start, ends):
        raise BadKind("moves")


class Kind:
    """A kind of objects; it never changes."""

    def __init__(self, name, start, ends, moves):
        _check_parts(name, start, ends, moves)
        self._name = name
        self._start = start
        self._ends = tuple(sorted(ends))
        self._moves = {key: tuple(sorted([tuple(one) for one in moves[key]])) for key in sorted(moves)}

    @property
    def name(self):
        """The name of the kind."""
        return self._name

    @property
    def start(self):
        """The state in which a new object is."""
        return self._start

    @property
    def ends(self):
        """The sorted tuple of the states in which an object may be dropped."""
        return self._ends

    def states(self):
        """The sorted list of all states."""
        return _states_of(self._start, self._ends, self._moves)

    def methods(self):
        """The sorted list of all methods."""
        return _methods_of(self._moves)

    def moves(self):
        """The dict of all moves, from (state, method) to the sorted tuple of outcomes (word, state)."""
        return {key: self._moves[key] for key in self._moves}

    def renamed(self, name):
        """The same kind with another name."""
        return Kind(name, self._start, self._ends, self._moves)

    def __getitem__(self, at):
        """The outcomes of (state, method); None if the method is barred or this is no such pair."""
        if _is_key(at):
            return self._moves.get(at)
        return None

    def __contains__(self, x):
        """Whether there is a move of (state, method)."""
        return _is_key(x) and x in self._moves

    def __iter__(self):
        raise TypeError("a kind is not iterated over")

    def __eq__(self, other):
        return (isinstance(other, Kind) and self._name == other._name and self._start == other._start
                and self._ends == other._ends and self._moves == other._moves)


def _check_history(history):
    if not is_row(history):
        raise BadHistory(-1)
    for index, call in enumerate(history):
        if not is_pair(call) or not is_name(call[0]) or not is_word(call[1]):
            raise BadHistory(index)


def _states_behind(moves, states, method, word):
    found = []
    for state in states:
        found.extend([behind for told, behind in moves.get((state, method), ()) if told == word])
    return sorted(set(found))


def after(kind, history):
    """The sorted list of the states in which an object can be behind the history; [] if it cannot come."""
    _check_history(history)
    moves = kind.moves()
    states = [kind.start]
    for method, word in history:
        states = _states_behind(moves, states, method, word)
    return states


def allowed(kind, history):
    """The sorted list of the methods that are barred in none of the states behind the history."""
    states = after(kind, history)
    return [method for method in kind.methods() if all([(state, method) in kind for state in states])]
