"""Histories of complete calls: what the kept names hold behind them, and where that came from."""

from keptops.errors import InvalidHistory
from keptops.programs import check_history, holds_at_first, kept_names, run_call


def is_complete(events, outcome, call):
    """Whether a call of which this is told is not wanting, and uses all its answers."""
    return outcome != ("wanting",) and len(events) == len(call[1])


def held_behind(program, history):
    """The values that the kept names hold behind a history, in a list, each in a tuple with its kind.

    Raise InvalidHistory if the value is not a history of complete calls.
    """
    check_history(program, history)
    holds = holds_at_first(program)
    for number, call in enumerate(history):
        events, outcome, holds = run_call(program, number, holds, call)
        if not is_complete(events, outcome, call):
            raise InvalidHistory("a call is not complete")
    return [with_kind(holds[name]) for name in kept_names(program)]


def with_kind(held):
    """A value that is held with its kind, in the place of its truth; of a constant the kind does not count."""
    value, truth = held
    return (value, "t" if truth else "f")


def sources_of(held):
    """The sources of the objects among values that are held, in the order of their numbers in the state."""
    sources = []
    for value, _ in held:
        if value[0] == "object" and value[1] not in sources:
            sources.append(value[1])
    return sources
