"""Lines of texts of kinds and of programs, read one after the other."""

from rightstate.forms import BLOCKS, PARTS, are_unlike_errors, is_error, is_name, is_word
from rightstate.kinds import MOST_KINDS, MOST_METHODS, MOST_OUTCOMES, MOST_STATES, Kind

# The words that are statements by themselves.
BARE = ("maybe", "loop", "leave", "again", "try", "wait")
# The line that may come behind the first block of a statement.
BEHIND = {"test": "else", "same": "else", "has": "else", "maybe": "or", "try": "except"}


def _are_names(things):
    return all([is_name(one) for one in things])


def _read_names(text):
    """The names between brackets, with a comma and a blank between; None if they are none."""
    found = text.split(", ") if text != "" else []
    return found if _are_names(found) else None


class KindLines:
    """The lines of one kind."""

    def __init__(self):
        self._many = 0
        self.kind_name = ""
        self._start = ""
        self._ends = []
        self._moves = {}
        self._states = {}
        self._methods = {}

    def may_end(self):
        """Whether a text can end here."""
        return self._many >= 3

    def kind(self):
        """The kind of these lines."""
        return Kind(self.kind_name, self._start, self._ends, self._moves)

    def takes(self, line):
        """Takes the next line; whether it can stand here."""
        self._many += 1
        if self._many > 3:
            return self._takes_move(line)
        first, *names = line.split(" ")
        if not _are_names(names):
            return False
        if self._many == 3:
            self._ends = names
            return first == "ends" and len(set(names)) == len(names) and self._has_room(names)
        if first != ("kind" if self._many == 1 else "start") or len(names) != 1:
            return False
        if self._many == 1:
            self.kind_name = names[0]
        else:
            self._start = names[0]
            self._states[names[0]] = True
        return True

    def _has_room(self, states):
        """Whether there are not too many states with these."""
        for state in states:
            self._states[state] = True
        return len(self._states) <= MOST_STATES

    def _takes_move(self, line):
        if not line.startswith("  "):
            return False
        head, colon, rest = line[2:].partition(":")
        key = head.split(" ")
        if colon == "" or len(key) != 2 or not _are_names(key) or (key[0], key[1]) in self._moves:
            return False
        self._methods[key[1]] = True
        outcomes = self._outcomes_in(rest)
        if outcomes is None or len(self._methods) > MOST_METHODS:
            return False
        self._moves[key[0], key[1]] = outcomes
        return self._has_room([key[0]] + [state for _, state in outcomes])

    def _outcomes_in(self, text):
        """The list of the outcomes of a move; None if they are none."""
        if text == "":
            return []
        pairs = [one.split(" ") for one in text[1:].split(", ")]
        if text[0] != " " or len(pairs) > MOST_OUTCOMES:
            return None
        for pair in pairs:
            if len(pair) != 2 or not is_word(pair[0]) or not is_name(pair[1]):
                return None
        found = [(word, state) for word, state in pairs]
        return found if len(set(found)) == len(found) else None


class BodyLines:
    """The lines of the body of a function, and its block."""

    def __init__(self):
        self.block = []
        # The blocks that are not over, outer ones first; and for each the line that may go on with its last statement.
        self._blocks = [self.block]
        self._behind = [""]

    def takes(self, line):
        """Takes the next line; whether it can stand here."""
        told = line.lstrip(" ")
        deep, odd = divmod(len(line) - len(told), 2)
        if odd == 1 or not 1 <= deep <= len(self._blocks):
            return False
        del self._blocks[deep:]
        del self._behind[deep:]
        if told in ("else", "or"):
            return self._goes_on(told)
        first, *errors = told.split(" ")
        if first == "except" and all([is_error(one) for one in errors]):
            return self._catches(errors)
        statement = statement_in(told)
        if statement is None:
            return False
        word = statement[0]
        self._blocks[-1].append(statement)
        self._behind[-1] = BEHIND.get(word, "")
        if word in BLOCKS:
            self._begin(statement[len(PARTS[word]) + 1])
        return True

    def _begin(self, block):
        self._blocks.append(block)
        self._behind.append("")

    def _goes_on(self, told):
        """A line else or or, behind the first block of a statement."""
        if self._behind[-1] != told:
            return False
        self._behind[-1] = ""
        self._begin(self._blocks[-1][-1][-1])
        return True

    def _catches(self, errors):
        """A line except, behind the block of a try or of one of its handlers."""
        if self._behind[-1] != "except" or not are_unlike_errors(errors):
            return False
        block = []
        handlers = self._blocks[-1][-1][2]
        handlers.append((errors, block))
        self._begin(block)
        return True


def statement_in(line):
    """The statement that begins with this line, all its blocks empty lists; None if there is none."""
    if line.endswith(")"):
        head, bracket, inside = line[:-1].partition("(")
        args = _read_names(inside)
        if bracket == "" or args is None:
            return None
        return _called_in(head.split(" "), args)
    words = line.split(" ")
    if len(words) == 1:
        return _bare(line)
    if len(words) == 2:
        return _of_two(words[0], words[1])
    if len(words) == 3 and words[1] == "=" and is_name(words[0]):
        if words[2] == "None":
            return ("none", words[0])
        return ("copy", words[0], words[2]) if is_name(words[2]) else None
    if len(words) != 4 or not is_name(words[3]):
        return None
    first, second, third, fourth = words
    if second == "=" and third == "new" and is_name(first):
        return ("new", first, fourth)
    if first == "if" and third == "is" and is_name(second):
        return ("same", second, fourth, [], [])
    return None


def _bare(word):
    if word == "return":
        return ("return", None)
    if word not in BARE:
        return None
    if word == "maybe" or word == "try":
        return (word, [], [])
    return (word, []) if word == "loop" else (word,)


def _of_two(first, second):
    if first == "raise":
        return ("raise", second) if is_error(second) else None
    if not is_name(second):
        return None
    if first == "if":
        return ("has", second, [], [])
    if first == "with":
        return ("with", second, [])
    return ("return", second) if first == "return" else None


def _called_in(words, args):
    """The statement of a line with brackets; words are those ahead of them, args the names in them."""
    variable, dot, method = words[-1].partition(".")
    if dot == "":
        if len(words) == 1 and is_name(words[0]):
            return ("run", None, words[0], args)
        if len(words) == 3 and words[1] == "=" and is_name(words[0]) and is_name(words[2]):
            return ("run", words[0], words[2], args)
        return None
    if len(args) > 0 or not is_name(variable) or not is_name(method):
        return None
    if len(words) == 1:
        return ("call", variable, method)
    return ("test", variable, method, [], []) if len(words) == 2 and words[0] == "if" else None


class ProgramLines:
    """The lines of a program: those of its kinds, and then those of its functions."""

    def __init__(self):
        self._kinds = []
        self._functions = []

    def may_end(self):
        """Whether a text can end here."""
        return len(self._kinds) > 0 and self._kinds[-1].may_end()

    def kinds(self):
        """The list of the kinds."""
        return [one.kind() for one in self._kinds]

    def functions(self):
        """The list of the functions, as tuples (name, params, body)."""
        return [(name, params, body.block) for name, params, body in self._functions]

    def takes(self, line):
        """Takes the next line; whether it can stand here."""
        if not self.may_end():
            return self._takes_first(line) if len(self._kinds) == 0 else self._kinds[-1].takes(line)
        if line.startswith("def "):
            return self._takes_function(line)
        if len(self._functions) > 0:
            _, _, body = self._functions[-1]
            return body.takes(line)
        return self._kinds[-1].takes(line) if line.startswith(" ") else self._takes_first(line)

    def _takes_first(self, line):
        """The first line of a kind."""
        known = [one.kind_name for one in self._kinds]
        self._kinds.append(KindLines())
        return self._kinds[-1].takes(line) and self._kinds[-1].kind_name not in known and len(known) < MOST_KINDS

    def _takes_function(self, line):
        """The first line of a function."""
        name, bracket, inside = line[4:-1].partition("(")
        params = _read_names(inside)
        self._functions.append((name, params, BodyLines()))
        return bracket != "" and is_name(name) and params is not None and line.endswith(")")
