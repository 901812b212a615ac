"""Kinds and short ways to write programs, for the tests of walks, tables, papers and shortest runs."""

from rightstate.kinds import Kind
from rightstate.programs import Program

# May be dropped at any time, and has no methods.
PLAIN = Kind("plain", "s", ["s"], {})
# Must be shut when it is dropped. kick may leave it ajar, stay never comes back.
BOX = Kind("box", "shut", ["shut"], {
    ("shut", "lift"): [("yes", "ajar")],
    ("ajar", "lower"): [("no", "shut")],
    ("ajar", "peek"): [("yes", "ajar"), ("no", "ajar")],
    ("shut", "kick"): [("F", "shut"), ("E", "ajar"), ("yes", "shut")],
    ("ajar", "stay"): [],
    ("shut", "fail"): [("E", "shut")],
    ("ajar", "fail"): [("F", "shut")],
})
# Can be held by a with, and by another one within.
LOCK = Kind("lock", "free", ["free"], {
    ("free", "enter"): [("yes", "held")],
    ("held", "enter"): [("no", "twice")],
    ("twice", "exit"): [("no", "held")],
    ("held", "exit"): [("yes", "free")],
    ("held", "jam"): [("yes", "jammed")],
    ("jammed", "exit"): [("JAM", "free")],
    ("free", "lame"): [("yes", "lame")],
    ("lame", "enter"): [("LAME", "free")],
    ("held", "melt"): [("yes", "hot")],
    ("hot", "exit"): [("yes", "burnt")],
})
KINDS = (PLAIN, BOX, LOCK)
EMPTY = ((), ())


def program_of(body, *others, kinds=KINDS):
    """The program with this body of main, which has number 0."""
    return Program(kinds, (("main", (), tuple(body)),) + others)


def main_row(place, refs=(), objects=(), pending=()):
    return ("main", EMPTY, place, (refs, objects, pending))


def new(x, kind="plain"):
    return ("new", x, kind)


def call(x, method):
    return ("call", x, method)


WAIT = ("wait",)

WIDE_STATES = ["s" + a + b for a in "ab" for b in "abcdefghijklmnopqrst"]
# Two calls lead from the start to all of its forty states.
WIDE = Kind("wide", WIDE_STATES[0], WIDE_STATES, {
    (one, "m"): [("yes", WIDE_STATES[(8 * at + step) % 40]) for step in range(8)] for at, one in enumerate(WIDE_STATES)})


def wide_body(many):
    """A body that is safe and has so many rows: from 3970 on."""
    front = [("none", "y")] * (many - 3970)
    return front + [("new", "x", "wide"), ("call", "x", "m"), ("call", "x", "m")] + [("none", "y")] * 98


def wide_program(many, ahead=()):
    """A program with so many rows; those of what is put ahead of it are not counted."""
    return program_of(list(ahead) + wide_body(many), kinds=[WIDE])
