"""The points of a program or a built class, and where each of them leads.

A flow is made of parts that are right already. Its functions are laid out when they are asked for.
"""

from rightstate.forms import PARTS, blocks_of


class Around:
    """What is around the statements of a block, for those that leave it.

    out is the exit of the nearest with in whose block they stand, or the end of the body. catches are the pairs
    (errors, first point of the block) of the handlers on the way out to there, nearest ones first. leave and
    again are pairs (point, pending): where ("leave",) and ("again",) come first; None if no loop is around.
    holds is the number of the withs in whose blocks they stand.
    """

    def __init__(self, out, catches, leave, again, holds):
        self.out = out
        self.catches = catches
        self.leave = leave
        self.again = again
        self.holds = holds


class Point:
    """A point of a function.

    word is the first word of its statement, "exit", or what the flow calls the end of a body. parts are the parts of
    the statement but its blocks, with indexes for variables and numbers for functions. ways are the points to which
    it goes on: the first one by "yes" or option 0, the second one by "no" or option 1.
    """

    def __init__(self, place, word, parts, around, holds):
        self.place = place
        self.word = word
        self.parts = parts
        self.around = around
        self.holds = holds
        self.ways = ()


class Flow:
    """The functions of a program, or the methods of a built class, laid out in points.

    functions are tuples (name, params, body), variable_rows the lists of their variables. main is the number of the
    function with which runs begin, over the word of the points at the ends of bodies.
    """

    def __init__(self, kinds, functions, variable_rows, main, over):
        self.kind_by_name = {kind.name: kind for kind in kinds}
        self.states_by_kind = {kind.name: {state: True for state in kind.states()} for kind in kinds}
        self.function_names = [name for name, _, _ in functions]
        self.numbers = {name: number for number, (name, _, _) in enumerate(functions)}
        self.main = main
        self.over = over
        self.variable_rows = variable_rows
        self.param_counts = [len(params) for _, params, _ in functions]
        self._bodies = [body for _, _, body in functions]
        self._layouts = [None for _ in functions]

    def size_of(self, number):
        """How many variables a function has."""
        return len(self.variable_rows[number])

    def _layout_of(self, number):
        if self._layouts[number] is None:
            layout = Layout(number, self.variable_rows[number], self.numbers)
            layout.lay_out(self._bodies[number], self.over)
            self._layouts[number] = layout
        return self._layouts[number]

    def begin_of(self, number):
        """The first point of the body of a function."""
        return self._layout_of(number).begin

    def point_at(self, place):
        """The point with this place, a tuple of integers; None if there is none."""
        if len(place) == 0 or not 0 <= place[0] < len(self._layouts):
            return None
        return self._layout_of(place[0]).laid.get(place)

    def places(self):
        """The sorted list of the places of all points."""
        found = []
        for number in range(len(self._layouts)):
            found.extend(sorted(list(self._layout_of(number).laid)))
        return found


class Layout:
    """The points of one function: begin is the first one, laid the dict from their places."""

    def __init__(self, number, variables, numbers):
        self._number = number
        self._index = {variable: index for index, variable in enumerate(variables)}
        self._numbers = numbers
        # The parts of statements that were laid out, as many statements look alike.
        self._parts = {}
        self.laid = {}
        self.begin = None

    def lay_out(self, body, over):
        """Lays out all points of a body."""
        last = self._point((self._number, len(body)), over, (), None, 0)
        last.around = Around(last, (), None, None, 0)
        self.begin = self._block(body, (self._number,), last, last.around)

    def _point(self, place, word, parts, around, holds):
        point = Point(place, word, parts, around, holds)
        self.laid[place] = point
        return point

    def _block(self, block, ahead, behind, around):
        """The first point of a block; behind is the point behind it, which is the first one if it is empty."""
        first = behind
        for at in reversed(range(len(block))):
            first = self._statement(block[at], ahead + (at,), first, around)
        return first

    def _statement(self, statement, place, behind, around):
        """The point to which one comes in coming to a statement."""
        word = statement[0]
        if word == "try":
            return self._tried(statement, place, behind, around)
        point = self._point(place, word, self._parts_of(statement), around, around.holds)
        if word == "loop":
            inside = Around(around.out, around.catches, (behind, ()), (point, ()), around.holds)
            point.ways = (behind, self._block(statement[1], place + (0,), point, inside))
        elif word == "with":
            first = self._held(statement[2], place, behind, around)
            point.ways = (first, first)
        else:
            blocks = blocks_of(statement)
            found = [self._block(block, place + (number,), behind, around) for number, block in enumerate(blocks)]
            point.ways = tuple(found) if blocks else (behind, behind)
        return point

    def _tried(self, statement, place, behind, around):
        _, block, handlers = statement
        catches = tuple([(errors, self._block(inside, place + (number + 1,), behind, around))
                         for number, (errors, inside) in enumerate(handlers)])
        within = Around(around.out, catches + around.catches, around.leave, around.again, around.holds)
        return self._block(block, place + (0,), behind, within)

    def _held(self, block, place, behind, around):
        """The first point of the block of a with, the exit of which is laid out, too."""
        # The object that is held last is the last one of all that the activation holds here.
        leaving = self._point(place + (1,), "exit", (-1, "exit"), around, around.holds + 1)
        leaving.ways = (behind, behind)
        leave = None if around.leave is None else (leaving, ("leave",))
        again = None if around.again is None else (leaving, ("again",))
        return self._block(block, place + (0,), leaving, Around(leaving, (), leave, again, around.holds + 1))

    def _parts_of(self, statement):
        form = statement[:len(PARTS[statement[0]]) + 1]
        if statement[0] == "run":
            form = statement
        if form not in self._parts:
            self._parts[form] = self._found_parts(form)
        return self._parts[form]

    def _found_parts(self, form):
        if form[0] == "with":
            return (self._index[form[1]], "enter")
        found = []
        for part, sort in zip(form[1:], PARTS[form[0]]):
            if sort == "variable" or (sort == "result" and part is not None):
                found.append(self._index[part])
            elif sort == "function":
                found.append(self._numbers[part])
            else:
                found.append(part)
        if form[0] == "run":
            found.append(tuple([self._index[variable] for variable in form[3]]))
        return tuple(found)
