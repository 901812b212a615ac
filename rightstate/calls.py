"""Calls of the methods of built classes: all that can come of one, and single ones by choices that are told.

An object of a built class stands between its calls in a shape (refs, objects), of which refs has what its fields
hold. A call is an activation that was handed nothing: all that it holds may be dropped by it.
"""

from rightstate.configs import begin_config, config_behind, numbered
from rightstate.errors import TooMany
from rightstate.search import MOST_ROWS
from rightstate.steps import results_of


def _shape_of(refs, objects):
    """The shape of an object whose fields hold refs."""
    told, things, _ = numbered(refs, (), (), objects)
    return (told, things)


def _begin(rules, number, shape):
    """The row at which a call begins."""
    return (rules.flow.begin_of(number), begin_config(rules.flow, number, shape))


class Answers:
    """All that can come of calls of a method from a shape.

    given is the dict with all (answer, shape behind it); wrong is whether some call goes wrong.
    """

    def __init__(self, rules, number, shape):
        self._rules = rules
        self.given = {}
        self.wrong = False
        first = _begin(rules, number, shape)
        self._known = {first: True}
        self._rows = [first]
        done = 0
        while done < len(self._rows):
            self._explore(self._rows[done])
            done += 1

    def _explore(self, row):
        point, config = row
        refs, objects, pending = config
        for result in results_of(self._rules, point, refs, pending, objects, ()):
            what, where, held, _, _, _ = result
            if what == "go":
                self._meet((where, config_behind(config, (), result)))
            elif what == "over":
                self.given[where, _shape_of(held, objects)] = True
            elif what == "wrong":
                self.wrong = True

    def _meet(self, row):
        if row not in self._known:
            if len(self._rows) == MOST_ROWS:
                raise TooMany(MOST_ROWS)
            self._known[row] = True
            self._rows.append(row)


class Play:
    """Calls one after the other, for all of which there are these choices, and so many steps at most."""

    def __init__(self, rules, choices, most):
        self._rules = rules
        self._choices = choices
        self._most = most
        self._made = 0
        self._used = 0

    def call(self, number, shape):
        """A tuple (what, told, behind) of what comes of a call of a method from a shape.

        It is ("over", answer, shape behind it), ("wrong", place, why), or what stops the calls and twice None.
        """
        point, config = _begin(self._rules, number, shape)
        while True:
            refs, objects, pending = config
            results = results_of(self._rules, point, refs, pending, objects, ())
            if self._made == self._most:
                return "spent", None, None
            if len(results) > 1 and self._used == len(self._choices):
                return "open", None, None
            result = results[self._option(len(results))]
            self._made += 1
            what, where, held, _, _, _ = result
            if what == "over":
                return what, where, _shape_of(held, objects)
            if what == "wrong":
                return what, point.place, where
            if what == "waits":
                return what, None, None
            point, config = where, config_behind(config, (), result)

    def _option(self, many):
        """The number of the option that is made among so many."""
        if many == 1:
            return 0
        self._used += 1
        return self._choices[self._used - 1] % many
