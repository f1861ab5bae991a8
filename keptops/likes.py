"""What a program remembers of a history: the least one behind which it goes on alike."""

from keptops.errors import TooMany
from keptops.histories import held_behind, sources_of
from keptops.needs import Needs
from keptops.pairs import Pair
from keptops.programs import check_program, is_small
from keptops.states import state_of
from keptops.survey import Survey

MOST_REMEMBERED = 2


class Twins:
    """A program beside itself: each of the two behind a history of its own.

    The states of both are told as one, in which the objects of a pair have one number; the kinds
    of these may differ, as each entry tells the kind of its own object.
    """

    def __init__(self, program, needs):
        self.pair = Pair(program, program)
        self.needs = needs
        self.known = {}

    def matching(self, short, long):
        """The pairs of the numbers of needed objects under which all goes on alike behind both states, or None."""
        numbers = self.needs.needed_numbers(short)
        wanted = self.needs.needed_numbers(long)
        if len(numbers) != len(wanted):
            return None
        # A program that keeps so few names has at most two objects.
        for order in [wanted, wanted[::-1]]:
            pairs = list(zip(numbers, order))
            if self._go_on_alike(_beside(short, long, pairs)):
                return pairs
        return None

    def _go_on_alike(self, begin):
        """Whether no further calls tell different things."""
        seen = {begin: True}
        waiting = [begin]
        while len(waiting) > 0:
            following = self._behind(waiting.pop())
            if following is None:
                return False
            for state in following:
                if state not in seen:
                    seen[state] = True
                    waiting.append(state)
        return True

    def _behind(self, state):
        """The list of the states behind each complete call, or None if a call tells different things."""
        if state not in self.known:
            calls, parting = self.pair.behind(state)
            self.known[state] = None if parting is not None else list({behind: True for _, behind in calls})
        return self.known[state]


def _beside(short, long, pairs):
    """The states of both as one."""
    partners = {other: ("short", one) for one, other in pairs}
    held = [_held_at(entry, "short", {}) for entry in short]
    held.extend([_held_at(entry, "long", partners) for entry in long])
    return state_of(held)


def _held_at(entry, word, partners):
    """What a name holds: an object is told by its partner if it has one, else by this word and its number."""
    if not isinstance(entry, tuple):
        return ((entry,), None)
    number, kind = entry
    return (("object", partners.get(number, (word, number))), kind)


def least_like(program, history):
    """The least history behind which the program goes on alike as behind this one, and the pairs of needed objects."""
    check_program(program)
    if not is_small(program) or len(program[1]) > MOST_REMEMBERED:
        raise TooMany("the program is not small, or keeps too many names")
    held = held_behind(program, history)
    survey = Survey(program, None)
    twins = Twins(program, Needs(survey))
    reached = survey.reached()
    at = 0
    pairs = None
    # The state behind the history comes, too, and goes on like itself.
    while pairs is None:
        short = reached.calls_to(reached.states[at])
        pairs = twins.matching(reached.states[at], state_of(held))
        at += 1
    short_sources = sources_of(held_behind(program, short))
    long_sources = sources_of(held)
    return (short, sorted([(short_sources[one], long_sources[other]) for one, other in pairs]))
