"""Facts about the rows of a program: whether they ever run, and what names can hold when they do."""

from keptops.errors import InvalidLook, InvalidName, InvalidNumber, TooMany
from keptops.exprs import CONSTANTS, is_integer
from keptops.programs import check_program, count_rows, is_small, kept_names
from keptops.states import OBJECT_KINDS, Reached, begin_state, kinds_of, state_of, values_of
from keptops.survey import Survey, held_with


def row_history(program, row):
    """The least history in whose last call the row begins to run, or None."""
    _check_row_number(program, row)
    return _least_history(program, row, [], lambda held: True)


def holding_history(program, row, x, look):
    """The same, where the name x holds what is looked for when the row begins."""
    _check_row_number(program, row)
    _check_name(program, x)
    if look not in CONSTANTS and look not in OBJECT_KINDS:
        raise InvalidLook("there is no such look")
    return _least_history(program, row, [x], lambda held: _look_of(held[0]) == look)


def same_history(program, row, x, y):
    """The same, where the names x and y hold the same object when the row begins."""
    _check_row_number(program, row)
    _check_name(program, x)
    _check_name(program, y)
    return _least_history(program, row, [x, y], lambda held: held[0] == held[1] and held[0][0][0] == "object")


def _check_row_number(program, row):
    """Raise InvalidProgram, TooMany or InvalidNumber if these are no small program and a row of it."""
    check_program(program)
    if not is_small(program):
        raise TooMany("the program is not small")
    if not is_integer(row) or not 0 <= row < count_rows(program[2]):
        raise InvalidNumber("no row has this number")


def _check_name(program, x):
    if x not in program[0] and x not in kept_names(program):
        raise InvalidName("this is neither a parameter nor a kept name")


def _look_of(held):
    """How a value with its kind looks: the word of a constant, or the kind of an object."""
    value, kind = held
    return kind if value[0] == "object" else value[0]


def _least_history(program, row, names, wanted):
    """The least history behind which the row begins while the names hold what is wanted, or None."""
    survey = Survey(program, row)
    reached = Reached(begin_state([program]))
    at = 0
    while at < len(reached.states):
        state = reached.states[at]
        values = values_of(state)
        for kinds in survey.all_kinds:
            for answers, moment in survey.moments(kinds_of(state), kinds).items():
                if moment.begun is not None and wanted(held_with(moment.begun, names, values)):
                    return [*reached.calls_to(state), (kinds, list(answers))]
                if moment.holds is not None:
                    following = state_of(held_with(moment.holds, survey.names, values))
                    reached.add(following, state, (kinds, answers))
        at += 1
    return None
