"""Bodies of functions and methods as they are passed: all statements read in reading order, and kept in tuples.

A body has many statements, most of which look like others of it, and many programs are refused. So all is done in one
going through: a statement like the one ahead of it is known by being equal to it, each form is looked at but once for
all bodies, and a place is written out only if it is wrong.
"""

from rightstate.forms import PARTS, are_unlike_errors, is_name, is_part

MOST_VARIABLES = 5
MOST_STATEMENTS = 200
MOST_BLOCKS = 6
MOST_WITHS = 2

# For the statements with blocks how many parts come ahead of these, and how many parts there are.
SHAPES = {
    "test": (3, 5),
    "same": (3, 5),
    "has": (2, 4),
    "maybe": (1, 3),
    "loop": (1, 2),
    "try": (1, 3),
    "with": (2, 3),
}


class Reader:
    """Reads bodies, one after the other.

    words are the first words that statements may have; kinds are the names of the kinds; counts is the dict from
    the functions that may be run to how many parameters they have.

    Places are pairs of what is ahead and the last number, until they are told. Of what is around a statement, blocks,
    loops and withs are passed: how many there are of these.
    """

    def __init__(self, words, kinds, counts):
        self._words = words
        self._kinds = kinds
        self._counts = counts
        # From each form that was looked at to the variables in it; None if it is wrong.
        self._forms = {}
        # The rows of errors of handlers that were looked at and are right.
        self._errors = {}
        # Of the body that is read: its variables, the forms met in it, how many statements, and the last one of these
        # without blocks if it may stand at the next place, too.
        self._named = {}
        self._met = {}
        self._many = 0
        self._last = None

    def refuse(self, place):
        """Raises the error that tells this place."""
        raise NotImplementedError("each sort of bodies has an error of its own")

    def read(self, number, variables, body):
        """A pair: the list of all variables of a body, of which some are named ahead, and the body in tuples."""
        self._named = {variable: True for variable in variables}
        self._met = {}
        self._many = 0
        self._last = None
        told = self._block(body, number, 0, 0, 0)
        return list(self._named), told

    def _refuse(self, place):
        found = []
        while isinstance(place, tuple):
            place, at = place
            found.append(at)
        found.append(place)
        found.reverse()
        self.refuse(tuple(found))

    def _block(self, rows, place, blocks, loops, withs):
        """A block in tuples."""
        if len(rows) == 0:
            return ()
        if blocks > MOST_BLOCKS:
            self._refuse((place, 0))
        # There are as many found as statements were gone through, so that their number tells where one stands.
        found = []
        last = self._last
        many = self._many
        met = self._met
        for statement in rows:
            many += 1
            if many > MOST_STATEMENTS:
                self._refuse((place, len(found)))
            if statement == last and last is not None:
                found.append(last)
                continue
            if not isinstance(statement, tuple):
                statement = tuple(statement) if isinstance(statement, list) else ()
            if len(statement) == 0 or not isinstance(statement[0], str):
                self._refuse((place, len(found)))
            if statement[0] in SHAPES:
                self._many = many
                self._last = last
                found.append(self._with_blocks(statement, (place, len(found)), blocks, loops, withs))
                many = self._many
                last = self._last
                continue
            # Most statements have one or two parts more, and were met already.
            if not (1 < len(statement) < 4 and isinstance(statement[1], str) and isinstance(statement[-1], str)
                    and statement in met):
                statement = self._simple(statement, (place, len(found)), loops)
            last = statement
            found.append(statement)
        self._many = many
        self._last = last
        return tuple(found)

    def _simple(self, statement, place, loops):
        """A statement without blocks in tuples."""
        if statement[0] == "run":
            return self._run(statement, place)
        self._meet(statement, place)
        if loops == 0 and statement[0] in ("leave", "again"):
            self._refuse(place)
        return statement

    def _run(self, statement, place):
        """A statement that runs a function, in tuples; most of these are unlike, so that forms are of no use."""
        if len(statement) != 4 or not isinstance(statement[3], (list, tuple)):
            self._refuse(place)
        word, result, function, args = statement
        if not isinstance(function, str) or self._counts.get(function) != len(args):
            self._refuse(place)
        args = tuple(args)
        for variable in args if result is None else (result,) + args:
            if not isinstance(variable, str):
                self._refuse(place)
            if variable not in self._named:
                if not is_name(variable):
                    self._refuse(place)
                self._named[variable] = True
        if len(self._named) > MOST_VARIABLES:
            self._refuse(place)
        return (word, result, function, args)

    def _with_blocks(self, statement, place, blocks, loops, withs):
        """A statement with blocks in tuples, all that stands in them, too."""
        word = statement[0]
        ahead, whole = SHAPES[word]
        if len(statement) != whole:
            self._refuse(place)
        if word == "try":
            return self._tried(statement, place, blocks + 1, loops, withs)
        first = statement[ahead]
        second = statement[-1]
        if not (isinstance(first, list) or isinstance(first, tuple)):
            self._refuse(place)
        if not (isinstance(second, list) or isinstance(second, tuple)):
            self._refuse(place)
        head = statement[:ahead]
        if ahead > 1 and not (isinstance(head[1], str) and isinstance(head[-1], str) and head in self._met):
            self._meet(head, place)
        if word == "loop":
            block = self._block(first, (place, 0), blocks + 1, loops + 1, withs)
            # What may stand in a loop need not be right behind it.
            self._last = None
            return (word, block)
        if word == "with":
            if withs == MOST_WITHS:
                self._refuse(place)
            return head + (self._block(first, (place, 0), blocks + 1, loops, withs + 1),)
        # Many blocks are empty; they are not gone into.
        first = self._block(first, (place, 0), blocks + 1, loops, withs) if first else ()
        return head + (first, self._block(second, (place, 1), blocks + 1, loops, withs) if second else ())

    def _tried(self, statement, place, blocks, loops, withs):
        _, block, handlers = statement
        if not isinstance(block, (list, tuple)) or not isinstance(handlers, (list, tuple)):
            self._refuse(place)
        told = [self._handler(handler, place) for handler in handlers] if handlers else []
        first = self._block(block, (place, 0), blocks, loops, withs)
        found = []
        for number, (errors, inside) in enumerate(told):
            found.append((errors, self._block(inside, (place, number + 1), blocks, loops, withs)))
        return ("try", first, tuple(found))

    def _handler(self, handler, place):
        """A pair of the errors of a handler, in a tuple, and its block as it is passed."""
        if not isinstance(handler, (list, tuple)) or len(handler) != 2:
            self._refuse(place)
        errors, block = handler
        if not isinstance(errors, (list, tuple)) or not isinstance(block, (list, tuple)):
            self._refuse(place)
        told = tuple(errors)
        for error in told:
            if not isinstance(error, str):
                self._refuse(place)
        if told not in self._errors:
            if not are_unlike_errors(told):
                self._refuse(place)
            self._errors[told] = True
        return told, block

    def _meet(self, form, place):
        """Looks at the parts of a statement but its blocks, and names the variables among them."""
        for part in form:
            # Only what can surely be hashed is looked up.
            if not isinstance(part, str) and part is not None:
                self._refuse(place)
        if form in self._met:
            return
        self._met[form] = True
        if form not in self._forms:
            self._forms[form] = self._variables_in(form)
        if self._forms[form] is None:
            self._refuse(place)
        for variable in self._forms[form]:
            self._named[variable] = True
        if len(self._named) > MOST_VARIABLES:
            self._refuse(place)

    def _variables_in(self, form):
        """The list of the variables among the parts of a statement; None if it is wrong."""
        word = form[0]
        if word not in self._words:
            return None
        sorts = PARTS[word]
        if len(form) != len(sorts) + 1 or not all([is_part(part, sort) for part, sort in zip(form[1:], sorts)]):
            return None
        if word == "new" and form[2] not in self._kinds:
            return None
        return [part for part, sort in zip(form[1:], sorts)
                if sort == "variable" or (sort == "result" and part is not None)]
