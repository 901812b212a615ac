"""Live objects: single objects of a kind, whose methods are called for real."""

from rightstate.choices import check_choices, check_number
from rightstate.errors import Barred, Met, NoState, Waiting
from rightstate.forms import is_name

MOST_WITHS = 20


class Live:
    """An object of a kind; picks tell which of several outcomes come."""

    def __init__(self, kind, picks=()):
        check_choices(picks)
        self._kind = kind
        self._states = kind.states()
        self._state = kind.start
        self._picks = tuple(picks)
        self._used = 0
        self._answered = []
        # How many withs it stands in.
        self._deep = 0

    def __call__(self, method):
        """Calls a method: True for "yes", False for "no"; an error is raised as Met."""
        outcomes = self._kind[self._state, method]
        if outcomes is None:
            raise Barred(self._state, method)
        if len(outcomes) == 0:
            raise Waiting(method)
        word, behind = outcomes[self._option(len(outcomes))]
        self._answered.append((self._state, method, word, behind))
        self._state = behind
        if word == "yes" or word == "no":
            return word == "yes"
        raise Met(word)

    def _option(self, many):
        """The number of the outcome that comes among so many."""
        if many == 1 or self._used == len(self._picks):
            return 0
        self._used += 1
        return self._picks[self._used - 1] % many

    def __contains__(self, x):
        """Whether this is a method that is not barred now."""
        return (self._state, x) in self._kind

    def __len__(self):
        return len(self._answered)

    @property
    def state(self):
        """The state in which the object is."""
        return self._state

    @state.setter
    def state(self, value):
        """Puts the object into a state of its kind."""
        if not is_name(value) or value not in self._states:
            raise NoState(value)
        self._state = value

    @property
    def left(self):
        """How many picks are left."""
        return len(self._picks) - self._used

    @property
    def held(self):
        """Whether the object is used by a with."""
        return self._deep > 0

    def told(self):
        """The list of (state ahead, method, word, state behind) of all answered calls."""
        return list(self._answered)

    def __enter__(self):
        self._deep += 1
        return self

    def __exit__(self, kind, value, trace):
        self._deep -= 1


def moved(live, state):
    """Puts a live object into a state; the state in which it was ahead of that."""
    ahead = live.state
    live.state = state
    return ahead


def within(live, deep):
    """The list of whether a live object is held ahead of so many withs within one another, in each, and behind each."""
    check_number(deep, 0, MOST_WITHS)
    flags = [live.held]
    _go_within(live, deep, flags)
    return flags


def _go_within(live, deep, flags):
    """Goes into so many withs, and tells in flags whether the object is held."""
    if deep > 0:
        with live:
            flags.append(live.held)
            _go_within(live, deep - 1, flags)
        flags.append(live.held)


def used(live, methods):
    """The list of what a live object returns for the methods of a row, all called within a with."""
    with live:
        return [live(method) for method in methods]
