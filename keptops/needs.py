"""Which objects a program must keep: those that further calls can still show.

An object is *shown* if it comes out or is an operand of an event. Whether that happens depends on
the kinds of what the kept names hold, and on which of them hold the object. So an object is looked
at as a *spot* here: a tuple of the kinds of all kept names, and a tuple of the places of those
that hold it.
"""

from keptops.errors import TooMany
from keptops.histories import held_behind, sources_of
from keptops.programs import check_program, is_small
from keptops.states import Reached, kinds_of, state_of
from keptops.survey import Survey


class Needs:
    """A program with what is needed of it, at each spot."""

    def __init__(self, survey):
        self.survey = survey
        self.moves = {}
        self.needed = {}

    def least_calls(self, spot):
        """The least list of calls that show the object at a spot, or None."""
        reached = Reached(spot)
        at = 0
        while at < len(reached.states):
            now = reached.states[at]
            showing, following = self._moves_from(now)
            if showing is not None:
                kinds, answers = showing
                return [*reached.calls_to(now), (kinds, list(answers))]
            for call, behind in following:
                reached.add(behind, now, call)
            at += 1
        return None

    def _moves_from(self, spot):
        """The least call that shows the object, or None; and with the least call to each, the spots behind."""
        if spot not in self.moves:
            self.moves[spot] = self._all_moves(spot)
        return self.moves[spot]

    def _all_moves(self, spot):
        kept_kinds, places = spot
        showing = None
        following = {}
        for kinds in self.survey.all_kinds:
            for answers, moment in self.survey.moments(kept_kinds, kinds).items():
                if showing is None and any([_is_at(value, places) for value in _shown(moment.told)]):
                    showing = (kinds, answers)
                if moment.holds is not None:
                    behind = self._spot_at(moment, places)
                    if behind[1] != () and behind not in following:
                        following[behind] = (kinds, answers)
        return (showing, [(call, behind) for behind, call in following.items()])

    def _spot_at(self, moment, places):
        """Where the object is at the end of a call."""
        held = [moment.holds[name] for name in self.survey.names]
        found = [at for at, (value, _) in enumerate(held) if _is_at(value, places)]
        return (tuple([kind for _, kind in held]), tuple(found))

    def needed_numbers(self, state):
        """The list of the numbers of the objects of a state that are needed."""
        return [number for number in range(count_objects(state)) if self._is_needed(spot_of(state, number))]

    def _is_needed(self, spot):
        if spot not in self.needed:
            self.needed[spot] = self.least_calls(spot) is not None
        return self.needed[spot]


def count_objects(state):
    """How many objects a state has."""
    return len({entry[0]: True for entry in state if isinstance(entry, tuple)})


def spot_of(state, number):
    """Where the object with this number is."""
    places = [at for at, entry in enumerate(state) if isinstance(entry, tuple) and entry[0] == number]
    return (kinds_of(state), tuple(places))


def _shown(told):
    """The values that are shown at a moment."""
    if told[0] == "ask":
        return told[2]
    return told[1:] if told[0] == "value" else ()


def _is_at(value, places):
    """Whether a value is the object that the names at these places held when the call began."""
    return value[0] == "object" and value[1][0] == "kept" and value[1][1] in places


def needed(program, history):
    """The needed objects behind a history, in ascending order, each with the least further calls that show it."""
    needs = Needs(survey_of(program))
    held = held_behind(program, history)
    state = state_of(held)
    found = []
    for number, source in enumerate(sources_of(held)):
        calls = needs.least_calls(spot_of(state, number))
        if calls is not None:
            found.append((source, calls))
    return sorted(found)


def survey_of(program):
    """The survey of a program; raise InvalidProgram or TooMany if it is no small one."""
    check_program(program)
    if not is_small(program):
        raise TooMany("the program is not small")
    return Survey(program, None)


def most_needed(program):
    """The greatest number of needed objects behind a history, and the least history behind which there are so many."""
    survey = survey_of(program)
    needs = Needs(survey)
    reached = survey.reached()
    counts = [len(needs.needed_numbers(state)) for state in reached.states]
    most = max(counts)
    return (most, reached.calls_to(reached.states[counts.index(most)]))
