"""A desk, which keeps programs by names."""

from keptops.errors import InvalidLine, InvalidName, NoProgram
from keptops.exprs import is_name
from keptops.programs import check_program
from keptops.progtexts import lines_of, program_of
from keptops.runs import Run


class Desk:
    """Programs by names, in the order in which the names came first."""

    def __init__(self):
        self._programs = {}
        # A tuple, so that the names may be gone through while others come.
        self._names = ()

    def __setitem__(self, name, program):
        if not is_name(name):
            raise InvalidName("this is not a name")
        check_program(program)
        if name not in self._names:
            self._names = (*self._names, name)
        self._programs[name] = program

    def __getitem__(self, name):
        if name not in self._names:
            raise NoProgram("no program stands by this name")
        return self._programs[name]

    def __contains__(self, name):
        return name in self._names

    def __len__(self):
        return len(self._names)

    def __iter__(self):
        return iter(self._names)

    def all_names(self):
        """The list of the names."""
        return list(self._names)

    def start(self, name):
        """A new run of the program by this name."""
        return Run(self[name])

    def load(self, text):
        """Put the programs of a text there, and return the list of their names as they stand in the text."""
        found = programs_of(text)
        for name, program in found:
            self[name] = program
        return [name for name, _ in found]


def programs_of(text):
    """The programs of a text in order, each in a tuple with its name ahead of it."""
    if not isinstance(text, str):
        raise InvalidLine(0)
    lines = lines_of(text)
    begins = [number for number, words in enumerate(lines) if words[:1] == ["name"]]
    ahead = lines[:begins[0]] if len(begins) > 0 else lines
    for number, words in enumerate(ahead):
        if len(words) > 0:
            raise InvalidLine(number)
    if len(begins) == 0:
        raise InvalidLine(len(lines))
    found = []
    for begin, end in zip(begins, [*begins[1:], len(lines)]):
        words = lines[begin]
        if len(words) != 2 or not is_name(words[1]):
            raise InvalidLine(begin)
        found.append((words[1], program_of(lines[begin + 1:end], begin + 1)))
    return found
