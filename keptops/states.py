"""States: what kept names hold, where it counts only which of them hold the same object, and its kind.

A state has an entry for each kept name: the word of a constant, or `(number, kind)`; objects are
numbered in the order in which they stand first.
"""

from keptops.exprs import CONSTANTS, is_integer

CONSTANT_KINDS = {"none": "n", "true": "t", "false": "f"}
OBJECT_KINDS = ("t", "f")


def begin_state(programs):
    """The state of the kept names of all the programs at the beginning."""
    return tuple([constant for program in programs for _, constant in program[1]])


def is_state(value, many):
    """Whether this is a state with so many entries."""
    if not isinstance(value, tuple) or len(value) != many:
        return False
    kinds = []
    for entry in value:
        if entry in CONSTANTS:
            continue
        if not isinstance(entry, tuple) or len(entry) != 2 or not is_integer(entry[0]) or entry[1] not in OBJECT_KINDS:
            return False
        number, kind = entry
        if number == len(kinds):
            kinds.append(kind)
        if not 0 <= number < len(kinds) or kinds[number] != kind:
            return False
    return True


def kinds_of(state):
    """The tuple of the kinds of what is held."""
    return tuple([CONSTANT_KINDS[entry] if entry in CONSTANTS else entry[1] for entry in state])


def values_of(state):
    """The list of the values that are held; the source of an object tells its number."""
    return [(entry,) if entry in CONSTANTS else ("object", ("kept", entry[0])) for entry in state]


def state_of(held):
    """The state of names that hold these values, each in a tuple with its kind."""
    numbers = {}
    state = []
    for value, kind in held:
        if value[0] == "object":
            state.append((numbers.setdefault(value[1], len(numbers)), kind))
        else:
            state.append(value[0])
    return tuple(state)


class Reached:
    """The states that come, in the order in which they are added, each with a history that leads to it."""

    def __init__(self, begin):
        self.states = [begin]
        self.came = {begin: None}

    def add(self, state, ahead, call):
        """Add a state to which a call leads from the state ahead, unless it is there already."""
        if state not in self.came:
            self.came[state] = (ahead, call)
            self.states.append(state)

    def calls_to(self, state):
        """The list of the calls that lead to the state."""
        calls = []
        now = self.came[state]
        while now is not None:
            ahead, (kinds, answers) = now
            calls.append((kinds, list(answers)))
            now = self.came[ahead]
        calls.reverse()
        return calls
