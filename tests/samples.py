"""What several tests need: the kind and the program of the document, and things of all sorts."""

from rightstate import kinds
from rightstate.errors import BadKind, RightError
from rightstate.kinds import Kind
from rightstate.programs import Program

FILE_MOVES = {
    ("new", "open"): [("no", "open"), ("LOST", "new")],
    ("open", "read"): [("yes", "open"), ("no", "last")],
    ("open", "close"): [("no", "shut")],
    ("last", "close"): [("no", "shut")],
}
MAIN = ("main", (), (("new", "f", "file"), ("run", "g", "twice", ("f", "f")), ("with", "f", ())))
TWICE = ("twice", ("a", "b"), (("maybe", (("call", "a", "open"),), ()), ("return", "b")))


def make_file():
    return Kind("file", "new", ["new", "shut"], FILE_MOVES)


def make_program():
    return Program([make_file()], [MAIN, TWICE])


def plain_kind(name):
    """A kind of one state without moves."""
    return Kind(name, "s", ["s"], {})


def names(many):
    """So many unlike names."""
    letters = "abcdefghijklmnopqrstuvwxyz"
    return ["n" + letters[k // 26] + letters[k % 26] for k in range(many)]


def nested(make, deep):
    """An empty row within so many rows."""
    thing = make()
    for _ in range(deep):
        thing = make([thing])
    return thing


def nested_dict(deep):
    thing = {}
    for _ in range(deep):
        thing = {"a": thing}
    return thing


def told():
    yield ("no", "open")


def texts_that_are_no_names():
    return ["", "A", "LOST", "a" * 9, "aB", "a1", "a_b", "a b", " a", "a ", "a\n", "\u00e9t\u00e9", "\uff41", "\u03b1",
            "\u0131", "a\u0301", "a-b", "1", "a" * 10000]


def texts_that_are_no_errors():
    return ["", "a", "open", "A" * 9, "Ab", "A1", "A_B", "A B", " A", "A ", "A\n", "\u00c9T\u00c9", "\uff21", "\u0391",
            "1", "A" * 10000]


def no_texts():
    """Things of all built-in types but texts and rows, and of the classes of the package."""
    return [None, True, False, 0, 1, -1, 10 ** 30 - 1, b"", b"file", b"a", bytearray(b"file"), memoryview(b"ab"),
            {}, {"a": 1}, {"a": []}, set(), {1}, {"a", "b"}, frozenset({"a"}), range(2), slice(0, 1), ..., NotImplemented,
            iter(["a"]), told(), told, len, "ab".upper, str, object(), kinds, {"a": 1}.keys(), {"a": 1}.items(),
            zip("a", "b"), enumerate("ab"), reversed(["a"]), property(), staticmethod(len), nested_dict(100),
            Kind, Program, BadKind, RightError, make_file(), make_program(), BadKind("name"), RightError()]


def rows():
    """Rows that are neither names nor pairs of texts that fit anywhere."""
    return [[], (), [[]], ((),), [None], (None, None), [True, False], ["A", 1], (b"a", b"b"), [["a"], ["b"]], [{}, {}],
            ({"a"}, {"b"}), [1, 2, 3], ("a", []), ([], "a"), nested(list, 100), nested(tuple, 100), [{"a": [()]}],
            [10 ** 30 - 1] * 3]


def no_names():
    return texts_that_are_no_names() + no_texts() + rows()


def no_errors():
    return texts_that_are_no_errors() + no_texts() + rows()


def no_words():
    return [thing for thing in no_errors() if thing != "yes" and thing != "no"] + ["Yes", "NO ", "yess", "y"]


def no_rows():
    return texts_that_are_no_names() + ["a", "ab"] + no_texts()


def no_integers():
    return ["", "a", "1"] + [thing for thing in no_texts() if isinstance(thing, bool) or not isinstance(thing, int)] + rows()


def no_numbers(least, most):
    """Things that are no integers within these bounds."""
    return no_integers() + [least - 1, most + 1, 10 ** 30 - 1, -10 ** 29]


def no_choices():
    """Pairs of the index of the first wrong element and of what is no row of choices."""
    found = [(-1, thing) for thing in no_rows() + [0, 1, "1", {0: 1}, {0, 1}]]
    for thing in no_integers() + [-1, -10 ** 29]:
        found += [(0, [thing]), (2, (0, 1, thing, thing, -1)), (999, [10 ** 29] * 999 + [thing])]
    return found
