"""Programs that run: each call goes on from what the calls ahead of it have left."""

from keptops.errors import InvalidCall, NotAlike, NothingToUndo, Unused, Wanting
from keptops.histories import with_kind
from keptops.pairs import Pair, check_as_many, check_comparable, comparison_from
from keptops.programs import check_program, holds_at_first, is_call, kept_names, run_call
from keptops.states import state_of


class MadeCall:
    """A call that was made, with what it told, and what the kept names hold behind it."""

    def __init__(self, kinds, answers, events, outcome, holds):
        self.kinds = kinds
        self.answers = answers
        self.events = events
        self.outcome = outcome
        self.holds = holds


class Run:
    """A program that runs, with its history."""

    def __init__(self, program):
        check_program(program)
        self._program = program
        self._made = []

    @property
    def program(self):
        """The program."""
        return self._program

    @property
    def history(self):
        """The list of the calls that were made."""
        return [(made.kinds, list(made.answers)) for made in self._made]

    def __call__(self, kinds, answers=()):
        """Make the next call if it is complete, and return its events and its outcome."""
        if not isinstance(answers, (list, tuple)) or not is_call((kinds, list(answers)), self._program):
            raise InvalidCall("these are no kinds and answers for the program")
        call = (kinds, list(answers))
        events, outcome, holds = run_call(self._program, len(self._made), self._holds(), call)
        if outcome == ("wanting",):
            raise Wanting(events)
        if len(events) < len(answers):
            raise Unused(len(answers) - len(events))
        self._made.append(MadeCall(kinds, tuple(answers), tuple(events), outcome, holds))
        return (events, outcome)

    def _holds(self):
        """What the kept names hold now."""
        return self._made[-1].holds if len(self._made) > 0 else holds_at_first(self._program)

    def holding(self):
        """The tuple of the values of the kept names."""
        holds = self._holds()
        return tuple([holds[name][0] for name in kept_names(self._program)])

    def copy(self):
        """Another run with the same program and history."""
        other = Run(self._program)
        other._made = list(self._made)
        return other

    def undo(self):
        """Take the last call back."""
        if len(self._made) == 0:
            raise NothingToUndo("no call was made")
        self._made.pop()

    def trial(self):
        """A block behind which the run has its history again if an error leaves it."""
        return Trial(self)

    def same_future(self, other):
        """None if all further calls of both tell the same, else the least ones that do not."""
        check_as_many(self._program, other.program)
        if self.history != other.history or self._told() != other._told():
            raise NotAlike("the runs have different histories, or tell different things")
        check_comparable(self._program, other.program)
        pair = Pair(self._program, other.program)
        pair.begin = state_of([*self._held(), *other._held()])
        word, found = comparison_from(pair)
        return found if word == "unlike" else None

    def _told(self):
        """The events and the outcome of each call, with places for the names of parameters."""
        return [(self._events_by_place(made), self._outcome_by_place(made)) for made in self._made]

    def _events_by_place(self, made):
        return [(word, [self._by_place(value) for value in values]) for word, values in made.events]

    def _outcome_by_place(self, made):
        word, *rest = made.outcome
        return (word, self._by_place(rest[0])) if word == "value" else made.outcome

    def _held(self):
        """The values that the kept names hold, with places for the names of parameters, and their kinds."""
        held = [with_kind(self._holds()[name]) for name in kept_names(self._program)]
        return [(self._by_place(value), kind) for value, kind in held]

    def _by_place(self, value):
        """A value, with the place of a parameter for its name."""
        if value[0] != "object" or value[1][1][0] != "name":
            return value
        number, (word, name) = value[1]
        return ("object", (number, (word, self._program[0].index(name))))

    def __len__(self):
        return len(self._made)

    def __eq__(self, other):
        return isinstance(other, Run) and self._program == other.program and self.history == other.history


class Trial:
    """A block of `with` behind which a run has its history again if an error leaves it."""

    def __init__(self, run):
        self.run = run
        self.made = []

    def __enter__(self):
        self.made = list(self.run._made)
        return self.run

    def __exit__(self, kind, value, trace):
        run = self.run
        if kind is not None:
            run._made = self.made


def attempt(run, calls):
    """What the calls return, one behind the other; None among them takes a call back. All of them are made, or none."""
    told = []
    with run.trial() as same:
        for item in calls:
            if item is None:
                same.undo()
            else:
                kinds, answers = item
                told.append(same(kinds, answers))
    return told
