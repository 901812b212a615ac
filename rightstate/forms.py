"""The forms of what is passed: rows, names, errors, words and statements.

A form is what can be seen of a thing alone. Whether there is a kind, a function or a loop for a statement
is for the program to tell.
"""

MOST_SIGNS = 8
# No place, and no part of a row or an exit, has more elements.
MOST_PARTS = 20

# The parts of each statement behind its first word. A "result" is a variable or None.
STATEMENTS = {
    "new": ("variable", "kind"),
    "copy": ("variable", "variable"),
    "none": ("variable",),
    "call": ("variable", "method"),
    "test": ("variable", "method", "block", "block"),
    "same": ("variable", "variable", "block", "block"),
    "has": ("variable", "block", "block"),
    "maybe": ("block", "block"),
    "loop": ("block",),
    "leave": (),
    "again": (),
    "try": ("block", "handlers"),
    "with": ("variable", "block"),
    "run": ("result", "function", "args"),
    "return": ("result",),
    "raise": ("error",),
    "wait": (),
}


def is_row(thing):
    """Whether this is a list or a tuple."""
    return isinstance(thing, (list, tuple))


def is_pair(thing):
    """Whether this is a row of two elements."""
    return is_row(thing) and len(thing) == 2


def is_name(thing):
    """Whether this is a text of 1 to 8 small letters."""
    # The length comes first, so that no long text is gone through.
    return (isinstance(thing, str) and len(thing) <= MOST_SIGNS
            and thing.isascii() and thing.isalpha() and thing.islower())


def is_error(thing):
    """Whether this is a text of 1 to 8 capital letters."""
    return (isinstance(thing, str) and len(thing) <= MOST_SIGNS
            and thing.isascii() and thing.isalpha() and thing.isupper())


def is_word(thing):
    """Whether a method can answer this: "yes", "no" or an error."""
    return is_error(thing) or (isinstance(thing, str) and thing in ("yes", "no"))


def is_integer(thing):
    """Whether this is an integer; True and False are none."""
    return isinstance(thing, int) and not isinstance(thing, bool)


def is_number(thing, least, most):
    """Whether this is an integer within these bounds."""
    return is_integer(thing) and least <= thing <= most


def is_plain(thing, deep):
    """Whether this is a text, an integer, or a row of such, at most so deep and nowhere longer than what is told."""
    if is_row(thing):
        return deep > 0 and len(thing) <= MOST_PARTS and all([is_plain(one, deep - 1) for one in thing])
    return isinstance(thing, str) or is_integer(thing)


def are_unlike_names(thing):
    """Whether this is a row of names, none of them twice."""
    return is_row(thing) and all([is_name(one) for one in thing]) and len(set(thing)) == len(thing)


def are_unlike_errors(thing):
    """Whether this is a row of errors, none of them twice."""
    return is_row(thing) and all([is_error(one) for one in thing]) and len(set(thing)) == len(thing)


def frozen(thing):
    """The same with tuples in the place of lists, at every depth."""
    if is_row(thing):
        return tuple([frozen(one) for one in thing])
    return thing


def _are_handlers(thing):
    return is_row(thing) and all([is_pair(one) and are_unlike_errors(one[0]) and is_row(one[1]) for one in thing])


def _is_part(thing, sort):
    if sort == "block":
        return is_row(thing)
    if sort == "handlers":
        return _are_handlers(thing)
    if sort == "args":
        return is_row(thing) and all([is_name(one) for one in thing])
    if sort == "error":
        return is_error(thing)
    if sort == "result":
        return thing is None or is_name(thing)
    return is_name(thing)


def is_statement(thing):
    """Whether this has one of the forms of statements; its blocks need only be rows."""
    if not is_row(thing) or len(thing) == 0 or not isinstance(thing[0], str) or thing[0] not in STATEMENTS:
        return False
    sorts = STATEMENTS[thing[0]]
    return len(thing) == len(sorts) + 1 and all([_is_part(part, sort) for part, sort in zip(thing[1:], sorts)])


def blocks_of(statement):
    """The list of the blocks of a statement, as they stand in it."""
    found = []
    for part, sort in zip(statement[1:], STATEMENTS[statement[0]]):
        if sort == "block":
            found.append(part)
        elif sort == "handlers":
            found.extend([block for _, block in part])
    return found


def variables_in(statement):
    """The list of the variables that a statement names, from left to right, without those in its blocks."""
    found = []
    for part, sort in zip(statement[1:], STATEMENTS[statement[0]]):
        if sort == "variable" or (sort == "result" and part is not None):
            found.append(part)
        elif sort == "args":
            found.extend(list(part))
    return found


def statements_of(block, ahead, around):
    """Tells (place, statement, around) for all statements of a block and of the blocks in it, in reading order.

    ahead is the place of the block; around is the tuple of the first words of the statements in whose blocks
    it stands, outer ones first. Each statement is told ahead of its blocks being read, so that whoever stops
    at the first wrong statement may pass a block with wrong ones in it.
    """
    for at, statement in enumerate(block):
        place = ahead + (at,)
        yield (place, statement, around)
        words = around + (statement[0],)
        for number, inside in enumerate(blocks_of(statement)):
            yield from statements_of(inside, place + (number,), words)
