"""Kinds and short ways to write programs, for the tests of walks, tables, papers and shortest runs."""

from rightstate.kinds import Kind
from rightstate.programs import Program

# May be dropped at any time, and has no methods.
PLAIN = Kind("plain", "s", ["s"], {})
# Must be shut when it is dropped. kick may leave it ajar, stay never comes back.
BOX = Kind("box", "shut", ["shut"], {
    ("shut", "lift"): [("yes", "ajar")],
    ("ajar", "lower"): [("no", "shut")],
    ("ajar", "peek"): [("yes", "ajar"), ("no", "ajar")],
    ("shut", "kick"): [("F", "shut"), ("E", "ajar"), ("yes", "shut")],
    ("ajar", "stay"): [],
    ("shut", "fail"): [("E", "shut")],
    ("ajar", "fail"): [("F", "shut")],
})
# Can be held by a with, and by another one within.
LOCK = Kind("lock", "free", ["free"], {
    ("free", "enter"): [("yes", "held")],
    ("held", "enter"): [("no", "twice")],
    ("twice", "exit"): [("no", "held")],
    ("held", "exit"): [("yes", "free")],
    ("held", "jam"): [("yes", "jammed")],
    ("jammed", "exit"): [("JAM", "free")],
    ("free", "lame"): [("yes", "lame")],
    ("lame", "enter"): [("LAME", "free")],
    ("held", "melt"): [("yes", "hot")],
    ("hot", "exit"): [("yes", "burnt")],
})
KINDS = (PLAIN, BOX, LOCK)
EMPTY = ((), ())


def program_of(body, *others, kinds=KINDS):
    """The program with this body of main, which has number 0."""
    return Program(kinds, (("main", (), tuple(body)),) + others)


def main_row(place, refs=(), objects=(), pending=()):
    return ("main", EMPTY, place, (refs, objects, pending))


def new(x, kind="plain"):
    return ("new", x, kind)


def call(x, method):
    return ("call", x, method)


WAIT = ("wait",)
