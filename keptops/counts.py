"""How often an event can happen in one history of a program."""

from keptops.errors import InvalidAnswers, TooMany
from keptops.evaluation import ANSWERS
from keptops.exprs import is_integer
from keptops.programs import check_program, is_history, is_small
from keptops.states import Reached, is_state, kinds_of
from keptops.survey import Survey


class Counting:
    """The calls of a program, with the number of the events in them that count."""

    def __init__(self, program, word, answers):
        check_program(program)
        if not _are_answers(answers):
            raise InvalidAnswers("this is no tuple of different answers")
        if not is_small(program):
            raise TooMany("the program is not small")
        self.survey = Survey(program, None)
        self.word = word
        self.counted = answers
        self.known = {}

    def counts(self, kept_kinds, kinds):
        """How many events count in a call with these kinds, by the answers that it uses."""
        key = (kept_kinds, kinds)
        if key not in self.known:
            self.known[key] = self._all_counts(self.survey.moments(kept_kinds, kinds))
        return self.known[key]

    def _all_counts(self, moments):
        ahead = {(): 0}
        counts = {}
        for answers, moment in moments.items():
            counts[answers] = ahead[answers]
            if moment.holds is None:
                has_word = moment.told[1] == self.word
                for answer in ANSWERS:
                    behind = (*answers, answer)
                    ahead[behind] = ahead[answers] + (1 if has_word and answer in self.counted else 0)
                if has_word and len(self.counted) == len(ANSWERS):
                    counts[answers] = ahead[answers] + 1
        return counts

    def calls_from(self, state):
        """The calls behind a state, each with how many events count in it, and the state at its end.

        In the place of this state stands None if the call is wanting. Of calls that agree in both
        the first one is told.
        """
        found = {}
        for kinds in self.survey.all_kinds:
            counts = self.counts(kinds_of(state), kinds)
            for answers, moment in self.survey.moments(kinds_of(state), kinds).items():
                following = None if moment.holds is None else self.survey.state_at(moment, state)
                key = (counts[answers], following)
                if key not in found:
                    found[key] = (kinds, answers)
        return [(call, many, following) for (many, following), call in found.items()]

    def through(self, state, call):
        """How many events count in a call behind a state, the state at its end, and how many answers it uses.

        In the place of this state stands None if the call is wanting.
        """
        kinds, answers = call
        moments = self.survey.moments(kinds_of(state), kinds)
        used = ()
        while moments[used].holds is None and len(used) < len(answers):
            used = (*used, answers[len(used)])
        moment = moments[used]
        following = None if moment.holds is None else self.survey.state_at(moment, state)
        return (self.counts(kinds_of(state), kinds)[used], following, len(used))


def _are_answers(value):
    """Whether this is a tuple of different answers."""
    if not isinstance(value, tuple) or len(value) > len(ANSWERS):
        return False
    return all([answer in ANSWERS and answer not in value[:at] for at, answer in enumerate(value)])


def most_events(program, word, answers=("t", "f", "n", "x")):
    """The greatest number of events that count in one history, with what shows it; or that there is none."""
    counting = Counting(program, word, answers)
    reached = counting.survey.reached()
    steps = {state: counting.calls_from(state) for state in reached.states}
    found = _ring(reached.states, steps)
    if found is not None:
        state, ring = found
        return ("endless", reached.calls_to(state), ring)
    levels = _levels(reached.states, steps)
    begin = reached.states[0]
    told = [(state, levels[state]) for state in reached.states]
    return ("most", levels[begin], _fullest(begin, steps, levels), told)


def _ring(states, steps):
    """A state and calls that lead from it to itself, in which an event counts; None if there are none."""
    behind = _states_behind(states, steps)
    for at, state in enumerate(states):
        for (kinds, answers), many, following in steps[state]:
            if many > 0 and behind[following] >> at & 1 == 1:
                return (state, [(kinds, list(answers)), *_calls_between(following, state, steps)])
    return None


def _states_behind(states, steps):
    """For each state the numbers of those that come behind it, itself included, as bits of an integer."""
    behind = {state: 1 << at for at, state in enumerate(states)}
    # Nothing comes behind a call that is wanting.
    behind[None] = 0
    changed = True
    while changed:
        changed = False
        for state in reversed(list(states)):
            bits = behind[state]
            for _, _, following in steps[state]:
                bits = bits | behind[following]
            changed = changed or bits != behind[state]
            behind[state] = bits
    return behind


def _calls_between(begin, end, steps):
    """The fewest complete calls that lead from one state to another."""
    reached = Reached(begin)
    at = 0
    while end not in reached.came:
        state = reached.states[at]
        for call, _, following in steps[state]:
            if following is not None:
                reached.add(following, state, call)
        at += 1
    return reached.calls_to(end)


def _levels(states, steps):
    """How many events can still count behind each state, where this is not endless."""
    levels = {state: 0 for state in states}
    levels[None] = 0
    changed = True
    while changed:
        changed = False
        for state in reversed(list(states)):
            most = max([many + levels[following] for _, many, following in steps[state]])
            changed = changed or most != levels[state]
            levels[state] = most
    return levels


def _fullest(begin, steps, levels):
    """A short history in which as many events count as can behind the beginning."""
    reached = Reached(begin)
    at = 0
    while levels[reached.states[at]] > 0:
        state = reached.states[at]
        for call, many, following in steps[state]:
            if many + levels[following] == levels[state]:
                reached.add(following, state, call)
        at += 1
    return reached.calls_to(reached.states[at])


def check_most(program, word, answer, answers=("t", "f", "n", "x")):
    """Whether the answer is a right one to most_events."""
    counting = Counting(program, word, answers)
    if not isinstance(answer, tuple) or len(answer) == 0:
        return False
    if answer[0] == "most" and len(answer) == 4:
        _, number, history, levels = answer
        return (
            is_integer(number) and is_history(program, history) and _count_in(counting, history) == number
            and _are_levels(counting, number, levels)
        )
    if answer[0] == "endless" and len(answer) == 3:
        _, history, ring = answer
        return is_history(program, history) and is_history(program, ring) and _is_ring(counting, history, ring)
    return False


def _count_in(counting, history):
    """How many events count in a history, up to a call that is wanting."""
    state = counting.survey.begin
    number = 0
    for call in history:
        many, state, _ = counting.through(state, call)
        number = number + many
        if state is None:
            break
    return number


def _are_levels(counting, number, levels):
    """Whether these are levels that show that no more than so many events count."""
    names = counting.survey.names
    if not isinstance(levels, list) or not all([_is_level(value, len(names)) for value in levels]):
        return False
    found = {state: most for state, most in levels}
    if len(levels) == 0 or len(found) < len(levels):
        return False
    begin, most = levels[0]
    if begin != counting.survey.begin or most > number:
        return False
    return all([_holds(counting, state, found) for state in found])


def _is_level(value, many):
    """Whether this is a state with so many entries and a number from 0 on."""
    if not isinstance(value, tuple) or len(value) != 2 or not is_state(value[0], many):
        return False
    return is_integer(value[1]) and value[1] >= 0


def _holds(counting, state, levels):
    """Whether the level of a state is right, if those behind it are."""
    for _, many, following in counting.calls_from(state):
        if many > levels[state]:
            return False
        if following is not None and (following not in levels or levels[following] > levels[state] - many):
            return False
    return True


def _is_ring(counting, history, ring):
    """Whether the ring leads from the state behind the history to itself, and an event counts in it."""
    begin, _ = _complete_through(counting, counting.survey.begin, history)
    if begin is None:
        return False
    end, many = _complete_through(counting, begin, ring)
    return end == begin and many > 0


def _complete_through(counting, state, calls):
    """The state behind calls, None unless they are complete, and how many events count in them."""
    number = 0
    for call in calls:
        many, state, used = counting.through(state, call)
        number = number + many
        if state is None or used < len(call[1]):
            return (None, 0)
    return (state, number)
