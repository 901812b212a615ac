"""Books: kinds and programs that are kept by names."""

from rightstate.errors import NoName, NoThing, Taken
from rightstate.forms import is_name
from rightstate.kinds import Kind
from rightstate.programs import Program
from rightstate.shortest import steps_to_wrong


class Book:
    """Kinds by their own names, and programs, which have the kinds of the book."""

    def __init__(self):
        self._things = {}

    def __getitem__(self, at):
        """The kind or the program of this name."""
        if not is_name(at) or at not in self._things:
            raise NoName(at)
        return self._things[at]

    def __setitem__(self, at, worth):
        """Puts a kind or a program."""
        if not isinstance(worth, Kind) and not isinstance(worth, Program):
            raise NoThing()
        if not is_name(at) or (isinstance(worth, Kind) and worth.name != at):
            raise NoName(at)
        if isinstance(worth, Kind):
            self._put_kind(worth)
        else:
            self._put_program(at, worth)

    def __contains__(self, x):
        """Whether there is a kind or a program of this name."""
        return is_name(x) and x in self._things

    def __len__(self):
        return len(self._things)

    def __iter__(self):
        raise TypeError("a book is not iterated over")

    def names(self):
        """The sorted list of the names of all kinds and programs."""
        return sorted(list(self._things))

    def _is_program(self, name):
        return isinstance(self._things.get(name), Program)

    def _is_kind(self, name):
        return isinstance(self._things.get(name), Kind)

    def _programs_with(self, name):
        """The sorted list of the names of the programs that have a kind of this name."""
        return [one for one in self.names()
                if self._is_program(one) and name in [kind.name for kind in self._things[one].kinds()]]

    def _put_kind(self, kind):
        if self._is_program(kind.name):
            raise Taken(kind.name)
        for name in self._programs_with(kind.name):
            self._things[name] = self._things[name].replaced(kind)
        self._things[kind.name] = kind

    def _put_program(self, name, program):
        names = [kind.name for kind in program.kinds()]
        if self._is_kind(name) or name in names or any([self._is_program(one) for one in names]):
            raise Taken(name)
        for kind in program.kinds():
            if kind.name in self._things:
                program = program.replaced(self._things[kind.name])
            else:
                self._things[kind.name] = kind
        self._things[name] = program

    def verdict(self, name):
        """What steps_to_wrong tells of the program of this name."""
        if not is_name(name) or not self._is_program(name):
            raise NoName(name)
        return steps_to_wrong(self._things[name])

    def changes(self, kind):
        """The sorted list of the programs that are safe either now or with this kind put, but not both."""
        found = []
        for name in self._programs_with(kind.name):
            program = self._things[name]
            now = steps_to_wrong(program)
            then = steps_to_wrong(program.replaced(kind))
            if (now is None) != (then is None):
                found.append(name)
        return found
