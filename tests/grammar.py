"""Texts by the words of section 15: the first line with which no text can go on, told by looking at all lines anew."""

import re

N, E = "[a-z]{1,8}", "[A-Z]{1,8}"
W = f"(?:yes|no|{E})"
OUTCOME = f"{W} {N}"
MOVE = re.compile(f"  ({N}) ({N}):((?: {OUTCOME})(?:, {OUTCOME})*)?")
ARGS = f"(?:{N}(?:, {N})*)?"
DEF = re.compile(f"def ({N})\\(({ARGS})\\)")
# Each statement with its first word, the form of its line, and the lines that may come behind its first block.
STATEMENTS = [
    ("new", f"({N}) = new ({N})", ""), ("none", f"({N}) = None", ""), ("copy", f"({N}) = ({N})", ""),
    ("call", f"({N})\\.({N})\\(\\)", ""), ("test", f"if ({N})\\.({N})\\(\\)", "else"), ("same", f"if ({N}) is ({N})", "else"),
    ("has", f"if ({N})", "else"), ("maybe", "maybe", "or"), ("loop", "loop", "block"), ("leave", "leave", ""),
    ("again", "again", ""), ("try", "try", "except"), ("with", f"with ({N})", "block"), ("run", f"(?:({N}) = )?({N})\\(({ARGS})\\)", ""),
    ("return", f"return(?: ({N}))?", ""), ("raise", f"raise ({E})", ""), ("wait", "wait", ""),
]


def args(text):
    return tuple(text.split(", ")) if text else ()


def statement(line):
    """(word, parts, behind) of the first line of a statement, or None."""
    found = [(word, match.groups(), behind) for word, form, behind in STATEMENTS for match in [re.fullmatch(form, line)] if match]
    assert len(found) <= 1, line
    return found[0] if found else None


def kind_wrong(lines):
    """Whether the last of these lines of one kind is wrong if those ahead of it are right."""
    line = lines[-1]
    if len(lines) <= 3:
        form = [f"kind {N}", f"start {N}", f"ends(?: {N})*"][len(lines) - 1]
        if not re.fullmatch(form, line):
            return True
        names = line.split(" ")[1:]
        if len(lines) < 3:
            return False
        return len(set(names)) < len(names) or len(set(names + lines[1].split(" ")[1:])) > 60
    if not MOVE.fullmatch(line):
        return True
    moves = [MOVE.fullmatch(one).groups() for one in lines[3:]]
    outcomes = re.findall(OUTCOME, moves[-1][2] or "")
    if len(outcomes) > 8 or len(set(outcomes)) < len(outcomes) or moves[-1][:2] in [move[:2] for move in moves[:-1]]:
        return True
    states = {name for one in lines[1:3] for name in one.split(" ")[1:]}
    states |= {state for state, _, _ in moves} | {one.split(" ")[1] for move in moves for one in re.findall(OUTCOME, move[2] or "")}
    return len(states) > 60 or len({method for _, method, _ in moves}) > 8


def kind_parts(lines):
    moves = {}
    for one in lines[3:]:
        state, method, rest = MOVE.fullmatch(one).groups()
        moves[state, method] = [tuple(outcome.split(" ")) for outcome in re.findall(OUTCOME, rest or "")]
    return lines[0].split(" ")[1], lines[1].split(" ")[1], lines[2].split(" ")[1:], moves


def body_wrong(lines):
    """Whether the last of these lines of a body is wrong if those ahead of it are right."""
    deep, told = (len(lines[-1]) - len(lines[-1].lstrip(" "))), lines[-1].lstrip(" ")
    if deep % 2 or deep == 0:
        return True
    ahead = [(len(one) - len(one.lstrip(" ")), one.lstrip(" ")) for one in lines[:-1]]
    opens = bool(ahead) and (re.fullmatch("else|or|except.*", ahead[-1][1]) is not None and statement(ahead[-1][1]) is None
                             or statement(ahead[-1][1]) is not None and statement(ahead[-1][1])[2] != "")
    if deep > (ahead[-1][0] + 2 * opens if ahead else 2):
        return True
    if re.fullmatch(f"else|or|except(?: {E})*", told):
        # The lines of this depth, back to what is around them.
        line = []
        for other, one in ahead:
            line = [] if other < deep else line + [one] if other == deep else line
        if not line:
            return True
        if told in ("else", "or"):
            return statement(line[-1]) is None or statement(line[-1])[2] != told
        if told.split(" ").count("except") > 1 or len(set(told.split(" "))) < len(told.split(" ")):
            return True
        while line and re.fullmatch(f"except(?: {E})*", line[-1]):
            line.pop()
        return not line or line[-1] != "try"
    return statement(told) is None


def body_block(lines):
    """The block of right lines of a body."""
    at = 0

    def block(deep):
        nonlocal at
        found = []
        while at < len(lines) and len(lines[at]) - len(lines[at].lstrip(" ")) == deep:
            word, parts, behind = statement(lines[at].lstrip(" "))
            at += 1
            if word == "run":
                parts = parts[:2] + (args(parts[2]),)
            made = (word,) + parts
            if behind:
                made += (block(deep + 2),)
            if behind in ("else", "or"):
                more = at < len(lines) and lines[at] == " " * deep + behind
                at += more
                made += (block(deep + 2) if more else (),)
            if behind == "except":
                handlers = []
                while at < len(lines) and re.fullmatch(" " * deep + f"except(?: {E})*", lines[at]):
                    at += 1
                    errors = tuple(lines[at - 1].lstrip(" ").split(" ")[1:])
                    handlers.append((errors, block(deep + 2)))
                made += (tuple(handlers),)
            found.append(made)
        return tuple(found)
    return block(2)


def split(text):
    """(lines, whether the last one has its line feed)."""
    lines = text.split("\n")
    return lines[:-1], lines[-1] == ""


def read_kind(text):
    """The number of the first wrong line, or the parts of the kind."""
    lines, whole = split(text)
    for number in range(1, len(lines) + 1):
        if kind_wrong(lines[:number]):
            return number
    return kind_parts(lines) if whole and len(lines) >= 3 else len(lines) + 1


def read_program(text):
    """The number of the first wrong line, or (parts of the kinds, functions)."""
    lines, whole = split(text)
    kinds, functions = [], []
    for number, line in enumerate(lines, start=1):
        ready = bool(kinds) and len(kinds[-1]) >= 3
        if ready and DEF.fullmatch(line):
            functions.append([line])
        elif functions:
            functions[-1].append(line)
            if body_wrong(functions[-1][1:]):
                return number
        elif not kinds or (ready and not line.startswith(" ")):
            names = [kind[0] for kind in kinds]
            kinds.append([line])
            if kind_wrong([line]) or line in names or len(kinds) > 4:
                return number
        else:
            kinds[-1].append(line)
            if kind_wrong(kinds[-1]):
                return number
    if not whole or not kinds or len(kinds[-1]) < 3:
        return len(lines) + 1
    told = [(DEF.fullmatch(one[0]).group(1), args(DEF.fullmatch(one[0]).group(2)), body_block(one[1:])) for one in functions]
    return [kind_parts(kind) for kind in kinds], told
