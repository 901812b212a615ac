"""Texts of kinds and of programs: written, and read again."""

from rightstate.errors import NoText
from rightstate.lines import BARE, KindLines, ProgramLines
from rightstate.programs import Program


def kind_text(kind):
    """The text of a kind."""
    return _text_of(_kind_lines(kind))


def program_text(program):
    """The text of a program."""
    found = []
    for kind in program.kinds():
        found.extend(_kind_lines(kind))
    for name, params, body in program.functions():
        found.append(f"def {name}({', '.join(params)})")
        _add_block(found, body, 1)
    return _text_of(found)


def _text_of(lines):
    return "".join([line + "\n" for line in lines])


def _kind_lines(kind):
    found = [f"kind {kind.name}", f"start {kind.start}", " ".join(["ends"] + list(kind.ends))]
    for (state, method), outcomes in kind.moves().items():
        row = ", ".join([f"{word} {behind}" for word, behind in outcomes])
        found.append(f"  {state} {method}: {row}" if row else f"  {state} {method}:")
    return found


def _add_block(found, block, deep):
    """Adds the lines of a block to those that were found ahead of it."""
    ahead = "  " * deep
    for statement in block:
        found.append(ahead + _line_of(statement))
        word = statement[0]
        if word in ("test", "same", "has", "maybe"):
            _add_block(found, statement[-2], deep + 1)
            if len(statement[-1]) > 0:
                found.append(ahead + ("or" if word == "maybe" else "else"))
                _add_block(found, statement[-1], deep + 1)
        elif word == "loop" or word == "with":
            _add_block(found, statement[-1], deep + 1)
        elif word == "try":
            _add_block(found, statement[1], deep + 1)
            for errors, inside in statement[2]:
                found.append(ahead + " ".join(("except",) + errors))
                _add_block(found, inside, deep + 1)


def _line_of(statement):
    """The first line of a statement, without the blanks ahead of it."""
    word = statement[0]
    if word in BARE:
        return word
    if word == "run":
        return _run_line(statement)
    if word == "return":
        return "return" if statement[1] is None else f"return {statement[1]}"
    first = statement[1]
    if word in ("none", "has", "with", "raise"):
        lines = {"none": f"{first} = None", "has": f"if {first}", "with": f"with {first}", "raise": f"raise {first}"}
        return lines[word]
    second = statement[2]
    lines = {
        "new": f"{first} = new {second}",
        "copy": f"{first} = {second}",
        "call": f"{first}.{second}()",
        "test": f"if {first}.{second}()",
        "same": f"if {first} is {second}",
    }
    return lines[word]


def _run_line(statement):
    _, result, function, args = statement
    line = f"{function}({', '.join(args)})"
    return line if result is None else f"{result} = {line}"


def _read(reader, text):
    """Reads all lines of a text; the first one with which no text can go on is refused, or the first that lacks."""
    if not isinstance(text, str):
        raise NoText(0)
    # Behind the last line feed stands nothing, if each line has one.
    *lines, rest = text.split("\n")
    for number, line in enumerate(lines):
        if not reader.takes(line):
            raise NoText(number + 1)
    if rest != "" or not reader.may_end():
        raise NoText(len(lines) + 1)


def read_kind(text):
    """The kind of which this is a text."""
    reader = KindLines()
    _read(reader, text)
    return reader.kind()


def read_program(text):
    """The program of which this is a text."""
    reader = ProgramLines()
    _read(reader, text)
    return Program(reader.kinds(), reader.functions())
