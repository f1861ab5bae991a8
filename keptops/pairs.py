"""Two programs: whether they do the same for every history, with a table that shows it."""

from keptops.errors import InvalidPair, TooMany
from keptops.programs import MOST_KEPT, check_program, is_small
from keptops.states import Reached, begin_state, is_state, kinds_of, state_of, values_of
from keptops.survey import Survey, held_with, told_with


class Pair:
    """Two programs side by side."""

    def __init__(self, one, other):
        self.one = Survey(one, None)
        self.other = Survey(other, None)
        self.begin = begin_state([one, other])

    def behind(self, state):
        """The calls from a state, up to the first one for which the programs tell different things.

        The answer is a list with `(call, next)` for each complete call, next the state at its
        end, and the call that parts the programs, or None. A call has a tuple of answers here.
        """
        many = len(self.one.names)
        values = values_of(state)
        kept_kinds = kinds_of(state)
        found = []
        for kinds in self.one.all_kinds:
            other_moments = self.other.moments(kept_kinds[many:], kinds)
            for answers, moment in self.one.moments(kept_kinds[:many], kinds).items():
                # The moments ahead are alike, so the other program has one with these answers, too.
                other = other_moments[answers]
                if told_with(moment.told, values[:many]) != told_with(other.told, values[many:]):
                    return (found, (kinds, answers))
                if moment.holds is not None:
                    held = held_with(moment.holds, self.one.names, values[:many])
                    held.extend(held_with(other.holds, self.other.names, values[many:]))
                    found.append(((kinds, answers), state_of(held)))
        return (found, None)


def _pair_of(one, other):
    """The two programs as a pair; raise InvalidProgram, InvalidPair or TooMany if they are none."""
    check_program(one)
    check_program(other)
    check_as_many(one, other)
    check_comparable(one, other)
    return Pair(one, other)


def check_as_many(one, other):
    """Raise InvalidPair if two programs have different numbers of parameters."""
    if len(one[0]) != len(other[0]):
        raise InvalidPair("the programs have different numbers of parameters")


def check_comparable(one, other):
    """Raise TooMany if two programs are not compared."""
    if len(one[1]) + len(other[1]) > MOST_KEPT or not is_small(one) or not is_small(other):
        raise TooMany("a program is not small, or both keep too many names")


def compare_programs(one, other):
    """Whether the programs are alike, with a table that shows it, or the least history that parts them."""
    return comparison_from(_pair_of(one, other))


def comparison_from(pair):
    """The same for a pair, from the state on where it begins."""
    reached = Reached(pair.begin)
    at = 0
    while at < len(reached.states):
        state = reached.states[at]
        calls, parting = pair.behind(state)
        if parting is not None:
            return ("unlike", [*reached.calls_to(state), (parting[0], list(parting[1]))])
        for call, following in calls:
            reached.add(following, state, call)
        at += 1
    return ("alike", reached.states)


def table_error(one, other, table):
    """None if this is a table for the programs, else what is wrong with it first."""
    pair = _pair_of(one, other)
    if not isinstance(table, list) or len(table) == 0:
        return ("table",)
    stands = {}
    for number, state in enumerate(table):
        if not is_state(state, len(pair.begin)) or state in stands:
            return ("state", number)
        stands[state] = True
    if table[0] != pair.begin:
        return ("begin",)
    for number, state in enumerate(table):
        calls, wrong = pair.behind(state)
        missing = [call for call, following in calls if following not in stands]
        # The call that parts the programs comes behind all calls that are in the list.
        if len(missing) > 0:
            wrong = missing[0]
        if wrong is not None:
            return ("call", number, (wrong[0], list(wrong[1])))
    return None
