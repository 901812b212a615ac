"""All errors that the package raises, with what they tell as attributes."""


class RightError(ValueError):
    """What all errors of this package are."""


class BadKind(RightError):
    """A part of a kind is not as it should be; part is its name."""

    def __init__(self, part):
        self.part = part


class BadHistory(RightError):
    """An element of a history is no pair of a name and a word; index is -1 if there is no row."""

    def __init__(self, index):
        self.index = index


class BadProgram(RightError):
    """Something of a program is wrong; place is where it stands."""

    def __init__(self, place):
        self.place = place


class NoKind(RightError):
    """There is no kind of this name, or this is no kind."""

    def __init__(self, thing):
        self.thing = thing


class NoFunction(RightError):
    """There is no function of this name."""

    def __init__(self, thing):
        self.thing = thing


class NoVariable(RightError):
    """There is no variable of this name."""

    def __init__(self, thing):
        self.thing = thing


class BadChoices(RightError):
    """An element of a row of choices is none; index is -1 if there is no row."""

    def __init__(self, index):
        self.index = index


class NoNumber(RightError):
    """This is no integer, or none within the bounds."""

    def __init__(self, value):
        self.value = value


class NoPlace(RightError):
    """This is no point of the program."""

    def __init__(self, place):
        self.place = place


class NoEntry(RightError):
    """The table has no row with this function and this entry."""


class BadEntry(RightError):
    """This is no entry of the function."""


class TooMany(RightError):
    """There are more things than the bound, which is many."""

    def __init__(self, many):
        self.many = many


class TooLong(RightError):
    """Something is longer than its bound; many is how long it is."""

    def __init__(self, many):
        self.many = many


class NotSafe(RightError):
    """A step of the program goes wrong, at this place and for this why."""

    def __init__(self, place, why):
        self.place = place
        self.why = why


class Parted(RightError):
    """A kind may not stand in for another one: this history parts them, for this why."""

    def __init__(self, history, why):
        self.history = history
        self.why = why


class BadBuilt(RightError):
    """Something of a built class is wrong; place is where it stands."""

    def __init__(self, place):
        self.place = place


class NoMethod(RightError):
    """An element of a row of methods is none; index is -1 if there is no row."""

    def __init__(self, index):
        self.index = index


class Met(RightError):
    """A method of a live object raised this error."""

    def __init__(self, error):
        self.error = error


class Barred(RightError):
    """A method of a live object was called in a state in which it is barred."""

    def __init__(self, state, method):
        self.state = state
        self.method = method


class Waiting(RightError):
    """A method of a live object was called that never comes back."""

    def __init__(self, method):
        self.method = method


class NoState(RightError):
    """This is no state of the kind."""

    def __init__(self, state):
        self.state = state


class NoText(RightError):
    """A text is not of the form that is read; line is the number of the first wrong line, 0 if it is no text."""

    def __init__(self, line):
        self.line = line


class NoName(RightError):
    """The book has nothing of this name, or this is no name for the thing."""

    def __init__(self, thing):
        self.thing = thing


class Taken(RightError):
    """A name of the book stands for a thing of the other sort already."""

    def __init__(self, thing):
        self.thing = thing


class NoThing(RightError):
    """What was to be put into a book is neither a kind nor a program."""
