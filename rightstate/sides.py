"""Two kinds side by side: the pairs of sets of states in which their objects can be behind the same histories.

A set of states is an integer here, with one bit for each state, and a set of methods one with a bit for each method.
"""

from rightstate.errors import TooMany

MOST_PAIRS = 4000


class Side:
    """One of two kinds, with the calls (method, word) of both."""

    def __init__(self, kind, methods, calls):
        self._states = kind.states()
        self._width = len(self._states)
        self._bits = {state: 1 << index for index, state in enumerate(self._states)}
        self.every = (1 << self._width) - 1
        self.begin = self._bits[kind.start]
        self.final = self.set_of(kind.ends)
        places = {call: index * self._width for index, call in enumerate(calls)}
        self._shifts = [places[call] for call in calls]
        # For each state the methods with a move there; and what all calls lead to, side by side in one integer.
        self._allowed = [0 for _ in self._states]
        self._behind = [0 for _ in self._states]
        for (state, method), outcomes in kind.moves().items():
            index = self._states.index(state)
            self._allowed[index] |= 1 << methods.index(method)
            for word, behind in outcomes:
                self._behind[index] |= self._bits[behind] << places[method, word]
        self._known = {}

    def set_of(self, states):
        """The set of these states."""
        return sum([self._bits[state] for state in states])

    def names_in(self, told):
        """The sorted tuple of the states of a set."""
        return tuple([state for index, state in enumerate(self._states) if told >> index & 1])

    def has(self, state):
        """Whether this is a state of the kind."""
        return isinstance(state, str) and state in self._bits

    def behind(self, told):
        """A pair: the methods that are barred in no state of a set, and for each call the set to which it leads."""
        if told not in self._known:
            self._known[told] = self._looked_up(told)
        return self._known[told]

    def _looked_up(self, told):
        allowed = -1
        behind = 0
        for index, methods in enumerate(self._allowed):
            if told >> index & 1:
                allowed &= methods
                behind |= self._behind[index]
        return allowed, [behind >> shift & self.every for shift in self._shifts]


class Sides:
    """The kinds one and other, where other is to stand in for one; their methods and calls are sorted."""

    def __init__(self, one, other):
        moves = list(one.moves().items()) + list(other.moves().items())
        self.all_methods = sorted({method for (_, method), _ in moves})
        self.all_calls = sorted({(method, word) for (_, method), outcomes in moves for word, _ in outcomes})
        self._method_bits = [1 << self.all_methods.index(method) for method, _ in self.all_calls]
        self.one = Side(one, self.all_methods, self.all_calls)
        self.other = Side(other, self.all_methods, self.all_calls)
        self.begin = (self.one.begin, self.other.begin)

    def told(self, pair):
        """The pair with sorted tuples of states in the place of sets."""
        return (self.one.names_in(pair[0]), self.other.names_in(pair[1]))

    def fault(self, pair):
        """None if a pair is good; otherwise why it is not, as parted tells it."""
        allowed, behind = self.one.behind(pair[0])
        also, beside = self.other.behind(pair[1])
        for index, method in enumerate(self.all_methods):
            if allowed & ~also & 1 << index:
                return ("barred", method)
        for call, bit, states, others in zip(self.all_calls, self._method_bits, behind, beside):
            if others != 0 and states == 0 and allowed & bit:
                return ("word",) + call
        if pair[0] & ~self.one.final == 0 and pair[1] & ~self.other.final != 0:
            return ("dropped",)
        return None

    def steps(self, pair):
        """The list of (call, pair) of all calls that lead on from a pair, the calls in their order."""
        allowed, behind = self.one.behind(pair[0])
        _, beside = self.other.behind(pair[1])
        return [(call, (states, others))
                for call, bit, states, others in zip(self.all_calls, self._method_bits, behind, beside)
                if states != 0 and others != 0 and allowed & bit]

    def both(self, pair):
        """A pair: the methods that are barred in neither set of a pair, and the list of (call, pair) of their calls.

        One of the sets, and one of those behind, may be empty.
        """
        allowed, behind = self.one.behind(pair[0])
        also, beside = self.other.behind(pair[1])
        found = [(call, (states, others))
                 for call, bit, states, others in zip(self.all_calls, self._method_bits, behind, beside)
                 if states | others != 0 and allowed & also & bit]
        return [method for index, method in enumerate(self.all_methods) if allowed & also & 1 << index], found

    def is_end(self, pair):
        """Whether all states of a pair are ends."""
        return pair[0] & ~self.one.final == 0 and pair[1] & ~self.other.final == 0


class Found:
    """The pairs of all fair histories of two kinds, in the order of the shortest histories to them.

    Shorter histories come first, and among those that are as long the one that is first as a tuple.
    """

    def __init__(self, sides):
        self._ahead = {sides.begin: None}
        self.pairs = [sides.begin]
        done = 0
        while done < len(self.pairs):
            self._go_on(sides, self.pairs[done])
            done += 1

    def _go_on(self, sides, pair):
        for call, behind in sides.steps(pair):
            if behind not in self._ahead:
                if len(self.pairs) == MOST_PAIRS:
                    raise TooMany(MOST_PAIRS)
                self._ahead[behind] = (pair, call)
                self.pairs.append(behind)

    def history_to(self, pair):
        """The first of the shortest histories to a pair."""
        found = []
        while self._ahead[pair] is not None:
            pair, call = self._ahead[pair]
            found.append(call)
        found.reverse()
        return tuple(found)
