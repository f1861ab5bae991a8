"""Programs whose kept names live on over many calls: their form, and what they do."""

from keptops.errors import InvalidExpression, InvalidHistory, InvalidProgram
from keptops.evaluation import ANSWERS, KINDS, OneRun, follow, held_object
from keptops.exprs import CONSTANTS, MOST_PLACES, check_expression, is_name, places_of, variables_of

MOST_PARAMETERS = 2
MOST_KEPT = 4
MOST_ROWS = 30
MOST_DEPTH = 6
MOST_SMALL = 3
# How many items a row of each word has, and where in it the expression and the blocks stand.
ROW_FORMS = {
    "set": (3, (2,), ()), "give": (2, (1,), ()), "if": (4, (1,), (2, 3)), "try": (3, (), (1, 2)),
}


def check_program(program):
    """Raise InvalidProgram if the value is not a program."""
    if not isinstance(program, tuple) or len(program) != 3:
        raise InvalidProgram("these are not three parts")
    parameters, kept, _ = program
    if not _is_short(parameters, MOST_PARAMETERS) or not all([is_name(name) for name in parameters]):
        raise InvalidProgram("the parameters are wrong")
    if not _is_short(kept, MOST_KEPT) or not all([_is_kept(value) for value in kept]):
        raise InvalidProgram("the kept names are wrong")
    names = [*parameters, *kept_names(program)]
    if any([name in names[:at] for at, name in enumerate(names)]):
        raise InvalidProgram("two names are equal")
    _check_rows(program)


def _is_short(value, most):
    return isinstance(value, tuple) and len(value) <= most


def _is_kept(value):
    """Whether this is a kept name with its constant."""
    return isinstance(value, tuple) and len(value) == 2 and is_name(value[0]) and value[1] in CONSTANTS


def _check_rows(program):
    """Raise InvalidProgram if the rows are wrong for the names."""
    parameters, kept, rows = program
    waiting = [(rows, 1)]
    many = 0
    places = 0
    # Nothing is looked at beyond a bound, so it does not matter how large or deep a wrong value is.
    while len(waiting) > 0:
        block, depth = waiting.pop()
        if not isinstance(block, tuple) or depth > MOST_DEPTH or many + len(block) > MOST_ROWS:
            raise InvalidProgram("a block is wrong, or nested too deep, or there are too many rows")
        many = many + len(block)
        for row in block:
            _check_row(row, parameters, kept)
            places = places + sum([places_of(expr) for expr in _expressions_of(row)])
            waiting.extend([(inner, depth + 1) for inner in _blocks_of(row)])
    if places > MOST_PLACES:
        raise InvalidProgram("too many event places")


def _check_row(row, parameters, kept):
    """Raise InvalidProgram if the value is not a row, whatever its blocks are."""
    if not isinstance(row, tuple) or len(row) == 0 or not isinstance(row[0], str):
        raise InvalidProgram("this is not a row")
    if row[0] not in ROW_FORMS or len(row) != ROW_FORMS[row[0]][0]:
        raise InvalidProgram("this is not a row")
    names = [name for name, _ in kept]
    if row[0] == "set" and row[1] not in names:
        raise InvalidProgram("what is set is not a kept name")
    for expr in _expressions_of(row):
        try:
            check_expression(expr)
        except InvalidExpression:
            raise InvalidProgram("there is no expression in a row") from None
        if not all([name in names or name in parameters for name in variables_of([expr])]):
            raise InvalidProgram("a variable is neither a parameter nor kept")


def _expressions_of(row):
    """The list of the expressions in the row itself: one or none."""
    return [row[at] for at in ROW_FORMS[row[0]][1]]


def _blocks_of(row):
    """The list of the blocks in the row."""
    return [row[at] for at in ROW_FORMS[row[0]][2]]


def count_rows(block):
    """How many rows a block has, those within rows included."""
    return len(block) + sum([count_rows(inner) for row in block for inner in _blocks_of(row)])


def kept_names(program):
    """The list of the kept names."""
    return [name for name, _ in program[1]]


def is_small(program):
    """Whether the program, which is known to be one, has few parameters and event places."""
    return len(program[0]) + _places_in(program[2]) <= MOST_SMALL


def _places_in(block):
    """How many event places a block has."""
    places = 0
    for row in block:
        places = places + sum([places_of(expr) for expr in _expressions_of(row)])
        places = places + sum([_places_in(inner) for inner in _blocks_of(row)])
    return places


class Step:
    """A row by its number, with the numbers of the rows that run behind it.

    `word` is its first item, `expr` its expression or None, `name` what is set or None. Behind it
    runs `then`, or, if an `if` finds its condition false, `other`; if an event fails in it,
    `failed`, which is None where the call fails. The number of all rows stands for the end.
    """

    def __init__(self, row, then, other, failed):
        self.word = row[0]
        self.name = row[1] if row[0] == "set" else None
        self.expr = None if row[0] == "try" else _expressions_of(row)[0]
        self.then = then
        self.other = other
        self.failed = failed


def steps_of(program):
    """The list of the steps of a program, by the numbers of its rows."""
    return _block_steps(program[2], 0, count_rows(program[2]), None)


def _block_steps(block, begin, behind, failed):
    """The steps of a block whose first row has the number `begin`, and behind which `behind` runs."""
    steps = []
    for at, row in enumerate(block):
        number = begin + len(steps)
        following = number + count_rows((row,)) if at + 1 < len(block) else behind
        steps.extend(_row_steps(row, number, following, failed))
    return steps


def _row_steps(row, number, behind, failed):
    """The steps of a row and of those within it."""
    blocks = _blocks_of(row)
    if len(blocks) == 0:
        return [Step(row, behind, behind, failed)]
    first, second = blocks
    # An empty block has no row of its own: there the rows behind follow.
    middle = number + 1 + count_rows(first)
    yes = number + 1 if len(first) > 0 else behind
    no = middle if len(second) > 0 else behind
    if row[0] == "if":
        step = Step(row, yes, no, failed)
        return [step, *_block_steps(first, number + 1, behind, failed), *_block_steps(second, middle, behind, failed)]
    step = Step(row, yes, yes, failed)
    return [step, *_block_steps(first, number + 1, behind, no), *_block_steps(second, middle, behind, failed)]


class CallRun(OneRun):
    """One call of a program, in which kept names are set."""

    def __init__(self, holds, answers, number):
        OneRun.__init__(self, holds, answers)
        self.number = number

    def source(self, number):
        """Where the answer of an event of this call comes from."""
        return (self.number, ("event", number))


def _end_of_call(steps, run):
    """Run the rows, and return the outcome of the call."""
    at = 0
    while at < len(steps):
        step = steps[at]
        if step.expr is None:
            at = step.then
            continue
        end = follow(step.expr, (), run, lambda held: ("value", held))
        if end[0] == "failed" and step.failed is not None:
            at = step.failed
            continue
        if end[0] != "value":
            return end
        value, truth, _ = end[1]
        if step.word == "give":
            return ("value", value)
        if step.word == "set":
            run.holds[step.name] = (value, truth)
        at = step.then if truth else step.other
    return ("value", ("none",))


def holds_at_first(program):
    """What the kept names hold at first, by name: a value, and whether it is true."""
    return {name: ((constant,), constant == "true") for name, constant in program[1]}


def run_call(program, number, holds, call):
    """The events and the outcome of a call with this number, and what the kept names hold behind it."""
    kinds, answers = call
    objects = {
        name: held_object((number, ("name", name)), kind) for name, kind in zip(program[0], kinds)
    }
    run = CallRun({**holds, **objects}, answers, number)
    outcome = _end_of_call(steps_of(program), run)
    return (run.events, outcome, {name: run.holds[name] for name in holds})


def is_call(value, program):
    """Whether this is a call for the program: kinds of its parameters and a list of answers."""
    if not isinstance(value, tuple) or len(value) != 2:
        return False
    kinds, answers = value
    if not isinstance(kinds, tuple) or len(kinds) != len(program[0]) or not isinstance(answers, list):
        return False
    return all([kind in KINDS for kind in kinds]) and all([answer in ANSWERS for answer in answers])


def is_history(program, value):
    """Whether this is a history for the program, or for a machine."""
    return isinstance(value, list) and all([is_call(call, program) for call in value])


def check_history(program, history):
    """Raise InvalidHistory if the value is not a history for the program, or for a machine."""
    if not is_history(program, history):
        raise InvalidHistory("this is no list of calls of the program")


def play(program, history):
    """The events, the outcome and the values that are held at the end, of each call up to one that is wanting."""
    check_program(program)
    check_history(program, history)
    holds = holds_at_first(program)
    told = []
    for number, call in enumerate(history):
        events, outcome, holds = run_call(program, number, holds, call)
        told.append((events, outcome, tuple([holds[name][0] for name in kept_names(program)])))
        if outcome == ("wanting",):
            break
    return told
