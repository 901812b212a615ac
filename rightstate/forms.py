"""The forms of what is passed: rows, names, errors, words and statements.

A form is what can be seen of a thing alone. Whether there is a kind, a function or a loop for a statement
is for the program to tell.
"""

MOST_SIGNS = 8
# No place, and no part of a row or an exit, has more elements.
MOST_PARTS = 20

# The parts of each statement behind its first word and ahead of its blocks. A "result" is a variable or None, an
# "answer" is yes or no. (What stands behind the function of a run is a row of variables, whose number it tells.)
PARTS = {
    "new": ("variable", "kind"),
    "copy": ("variable", "variable"),
    "none": ("variable",),
    "call": ("variable", "method"),
    "test": ("variable", "method"),
    "same": ("variable", "variable"),
    "has": ("variable",),
    "maybe": (),
    "loop": (),
    "leave": (),
    "again": (),
    "try": (),
    "with": ("variable",),
    "run": ("result", "function"),
    "return": ("result",),
    "raise": ("error",),
    "wait": (),
    "say": ("answer",),
}
# How many blocks the statements with blocks have; those of the handlers of a try are not counted.
BLOCKS = {"test": 2, "same": 2, "has": 2, "maybe": 2, "loop": 1, "try": 1, "with": 1}


def is_row(thing):
    """Whether this is a list or a tuple."""
    return isinstance(thing, (list, tuple))


def is_pair(thing):
    """Whether this is a row of two elements."""
    return is_row(thing) and len(thing) == 2


def is_name(thing):
    """Whether this is a text of 1 to 8 small letters."""
    # The length comes first, so that no long text is gone through.
    return (isinstance(thing, str) and len(thing) <= MOST_SIGNS
            and thing.isascii() and thing.isalpha() and thing.islower())


def is_error(thing):
    """Whether this is a text of 1 to 8 capital letters."""
    return (isinstance(thing, str) and len(thing) <= MOST_SIGNS
            and thing.isascii() and thing.isalpha() and thing.isupper())


def is_word(thing):
    """Whether a method can answer this: "yes", "no" or an error."""
    return is_error(thing) or (isinstance(thing, str) and thing in ("yes", "no"))


def is_integer(thing):
    """Whether this is an integer; True and False are none."""
    return isinstance(thing, int) and not isinstance(thing, bool)


def is_number(thing, least, most):
    """Whether this is an integer within these bounds."""
    return is_integer(thing) and least <= thing <= most


def are_integers(thing):
    """Whether this is a row of integers."""
    return is_row(thing) and all([is_integer(one) for one in thing])


def is_plain(thing, deep):
    """Whether this is a text, an integer, or a row of such, at most so deep and nowhere longer than what is told."""
    if is_row(thing):
        return deep > 0 and len(thing) <= MOST_PARTS and all([is_plain(one, deep - 1) for one in thing])
    return isinstance(thing, str) or is_integer(thing)


def are_unlike_names(thing):
    """Whether this is a row of names, none of them twice."""
    return is_row(thing) and all([is_name(one) for one in thing]) and len(set(thing)) == len(thing)


def are_unlike_errors(thing):
    """Whether this is a row of errors, none of them twice."""
    return is_row(thing) and all([is_error(one) for one in thing]) and len(set(thing)) == len(thing)


def frozen(thing):
    """The same with tuples in the place of lists, at every depth."""
    if is_row(thing):
        return tuple([frozen(one) for one in thing])
    return thing


def is_part(thing, sort):
    """Whether this is a part of this sort of a statement."""
    if sort == "error":
        return is_error(thing)
    if sort == "answer":
        return isinstance(thing, str) and thing in ("yes", "no")
    return is_name(thing) or (sort == "result" and thing is None)


def blocks_of(statement):
    """The tuple of the blocks of a statement that is right, as they stand in it."""
    if statement[0] == "try":
        return (statement[1],) + tuple([block for _, block in statement[2]])
    if statement[0] in BLOCKS:
        return statement[-BLOCKS[statement[0]]:]
    return ()
