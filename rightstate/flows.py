"""The points of a program, and where each of them leads.

A flow is made of the parts of a program that are right already; it never changes.
"""

from rightstate.forms import STATEMENTS, blocks_of, statements_of, variables_in


class Around:
    """What is around the statements of a block, for those that leave it.

    out is the exit of the nearest with in whose block they stand, or the end of the body. catches are the pairs
    (errors, first point of the block) of the handlers on the way out to there, nearest ones first. leave and
    again are pairs (point, pending): where ("leave",) and ("again",) come first; None if no loop is around.
    holds is the number of the withs in whose blocks they stand.
    """

    def __init__(self, out, catches, leave, again, holds):
        self.out = out
        self.catches = catches
        self.leave = leave
        self.again = again
        self.holds = holds


class Point:
    """A point of a function.

    word is the first word of its statement, "exit" or "over" (at the end of a body). parts are the parts of the
    statement but its blocks, with indexes for variables and numbers for functions. ways are the points to which
    it goes on: the first one by "yes" or option 0, the second one by "no" or option 1.
    """

    def __init__(self, place, word, around, holds):
        self.place = place
        self.word = word
        self.around = around
        self.holds = holds
        self.parts = ()
        self.ways = ()


class Flow:
    """The functions of a program, laid out in points."""

    def __init__(self, kinds, functions):
        self.kind_by_name = {kind.name: kind for kind in kinds}
        self.states_by_kind = {kind.name: {state: True for state in kind.states()} for kind in kinds}
        self.function_names = [function[0] for function in functions]
        self.numbers = {function[0]: number for number, function in enumerate(functions)}
        self.main = self.numbers["main"]
        self.variable_rows = [_variables_of(function) for function in functions]
        self.param_counts = [len(function[1]) for function in functions]
        self.begins = []
        self.point_at = {}
        for number, function in enumerate(functions):
            layout = Layout(number, self.variable_rows[number], self.numbers)
            self.begins.append(layout.begin_of(function[2]))
            for point in layout.laid:
                self.point_at[point.place] = point

    def size_of(self, number):
        """How many variables a function has."""
        return len(self.variable_rows[number])


def _variables_of(function):
    _, params, body = function
    named = {variable: True for variable in params}
    for _, statement, _ in statements_of(body, (), ()):
        for variable in variables_in(statement):
            named[variable] = True
    return list(named)


class Layout:
    """Lays out the points of one function."""

    def __init__(self, number, variables, numbers):
        self._number = number
        self._index = {variable: index for index, variable in enumerate(variables)}
        self._numbers = numbers
        self.laid = []

    def begin_of(self, body):
        """The first point of a body, all of which is laid out."""
        over = self._point((self._number, len(body)), "over", None, 0)
        return self._block(body, (self._number,), over, Around(over, (), None, None, 0))

    def _point(self, place, word, around, holds):
        point = Point(place, word, around, holds)
        self.laid.append(point)
        return point

    def _block(self, block, ahead, behind, around):
        """The first point of a block; behind is the point behind it, which is the first one if it is empty."""
        first = behind
        for at in reversed(range(len(block))):
            first = self._statement(block[at], ahead + (at,), first, around)
        return first

    def _statement(self, statement, place, behind, around):
        """The point to which one comes in coming to a statement."""
        if statement[0] == "try":
            return self._tried(statement, place, behind, around)
        point = self._point(place, statement[0], around, around.holds)
        point.parts = self._parts_of(statement)
        if statement[0] == "loop":
            inside = Around(around.out, around.catches, (behind, ()), (point, ()), around.holds)
            point.ways = (behind, self._block(statement[1], place + (0,), point, inside))
        elif statement[0] == "with":
            first = self._held(statement[2], place, behind, around)
            point.ways = (first, first)
        else:
            found = [self._block(block, place + (number,), behind, around)
                     for number, block in enumerate(blocks_of(statement))]
            point.ways = tuple(found) if found else (behind, behind)
        return point

    def _tried(self, statement, place, behind, around):
        _, block, handlers = statement
        catches = tuple([(errors, self._block(inside, place + (number + 1,), behind, around))
                         for number, (errors, inside) in enumerate(handlers)])
        within = Around(around.out, catches + around.catches, around.leave, around.again, around.holds)
        return self._block(block, place + (0,), behind, within)

    def _held(self, block, place, behind, around):
        """The first point of the block of a with, the exit of which is laid out, too."""
        leaving = self._point(place + (1,), "exit", around, around.holds + 1)
        # The object that is held last is the last one of all that the activation holds here.
        leaving.parts = (-1, "exit")
        leaving.ways = (behind, behind)
        leave = None if around.leave is None else (leaving, ("leave",))
        again = None if around.again is None else (leaving, ("again",))
        return self._block(block, place + (0,), leaving, Around(leaving, (), leave, again, around.holds + 1))

    def _parts_of(self, statement):
        if statement[0] == "with":
            return (self._index[statement[1]], "enter")
        found = []
        for part, sort in zip(statement[1:], STATEMENTS[statement[0]]):
            if sort == "variable" or (sort == "result" and part is not None):
                found.append(self._index[part])
            elif sort == "args":
                found.append(tuple([self._index[variable] for variable in part]))
            elif sort == "function":
                found.append(self._numbers[part])
            elif sort != "block":
                found.append(part)
        return tuple(found)
