"""Flat code with jumps for a machine with a stack of values: its form, and what it does."""

from keptops.errors import InvalidCode
from keptops.evaluation import OneRun, check_answers, check_kinds, held_constant, holds_of
from keptops.exprs import CONSTANTS, MOST_OPERANDS, MOST_PLACES, MOST_VARIABLES, SIGNS, is_integer, is_name

MOST_INSTRUCTIONS = 120
TESTS = ("true", "false", "none", "given")
# How many items an instruction of each word has, and how many values it takes and gives
# (what jump_keep gives where it jumps, and what calls take, is told elsewhere).
FORMS = {
    "name": (2, 0, 1), "none": (1, 0, 1), "true": (1, 0, 1), "false": (1, 0, 1),
    "call": (3, 0, 1), "compare": (2, 2, 1), "not": (1, 1, 1), "isnone": (1, 1, 1),
    "copy": (1, 1, 2), "pop": (1, 1, 0), "swap": (1, 2, 2), "under": (1, 3, 3),
    "jump": (2, 0, 0), "jump_pop": (3, 1, 0), "jump_keep": (3, 1, 0),
}


def check_code(code):
    """Raise InvalidCode if the value is not code."""
    if not isinstance(code, list) or not 1 <= len(code) <= MOST_INSTRUCTIONS:
        raise InvalidCode("this is no list of so many instructions")
    if not all([_is_instruction(value, at, len(code)) for at, value in enumerate(code)]):
        raise InvalidCode("an item is not an instruction of this code")
    if count_events(code) > MOST_PLACES or len(names_in_code(code)) > MOST_VARIABLES:
        raise InvalidCode("too many calls and comparisons, or variables")
    if depths_of(code)[-1] != 1:
        raise InvalidCode("the end is not come to with one value")


def _is_instruction(value, at, length):
    """Whether this is an instruction that may stand at this place of code of this length."""
    if not isinstance(value, tuple) or len(value) == 0 or not isinstance(value[0], str):
        return False
    word = value[0]
    if word not in FORMS or len(value) != FORMS[word][0]:
        return False
    if word == "name":
        return is_name(value[1])
    if word == "call":
        return is_name(value[1]) and is_integer(value[2]) and 0 <= value[2] <= MOST_OPERANDS
    if word == "compare":
        return value[1] in SIGNS
    if word in ("jump_pop", "jump_keep") and value[1] not in TESTS:
        return False
    return not is_jump(value) or (is_integer(value[-1]) and at < value[-1] <= length)


def is_jump(instruction):
    """Whether the instruction has a target, which is its last item then."""
    return instruction[0] in ("jump", "jump_pop", "jump_keep")


def count_events(code):
    """How many calls and comparisons stand in the code."""
    return len([instruction for instruction in code if instruction[0] in ("call", "compare")])


def names_in_code(code):
    """The ascending list of the variables in the code."""
    names = {}
    for instruction in code:
        if instruction[0] == "name":
            names[instruction[1]] = True
    return sorted(list(names))


def _taken(instruction):
    """How many values the instruction takes."""
    return instruction[2] if instruction[0] == "call" else FORMS[instruction[0]][1]


def _following(instruction, at, depth):
    """The numbers of the instructions that follow, each with its depth."""
    word = instruction[0]
    next_depth = depth - _taken(instruction) + FORMS[word][2]
    if word == "jump":
        return [(instruction[1], depth)]
    if word == "jump_pop":
        return [(at + 1, next_depth), (instruction[2], next_depth)]
    if word == "jump_keep":
        return [(at + 1, next_depth), (instruction[2], depth)]
    return [(at + 1, next_depth)]


def depths_of(code):
    """The depths of all instructions and the end, None for those that cannot be come to.

    Raise InvalidCode if there are too few values, or different depths on two ways.
    """
    found = [0] + [None for _ in code]
    # All targets lie ahead, so what leads to an instruction has been looked at before it.
    for at, instruction in enumerate(code):
        depth = found[at]
        if depth is None:
            continue
        if depth < _taken(instruction):
            raise InvalidCode("too few values")
        for to, next_depth in _following(instruction, at, depth):
            if found[to] not in (None, next_depth):
                raise InvalidCode("different depths")
            found[to] = next_depth
    return found


def depths(code):
    """The depths of all instructions and the end, None for those that cannot be come to."""
    check_code(code)
    return depths_of(code)


def follow_code(code, at, stack, world, then):
    """Carry out the code from an instruction on, and return what `then` makes of the one value at the end.

    The items of the stack are tuples of a value and its truth. As with expressions, the world
    tells what an event leads to.
    """
    while at < len(code):
        instruction = code[at]
        world.reach(at)
        at += 1
        if instruction[0] in ("call", "compare"):
            return _follow_event(code, at, stack, world, then)
        if _jumps(instruction, stack):
            at = instruction[-1]
        elif not is_jump(instruction):
            _change(instruction, stack, world)
    return then(stack[-1])


def _follow_event(code, at, stack, world, then):
    """Let the event ahead of instruction `at` happen, and go on behind it."""
    instruction = code[at - 1]
    below = len(stack) - _taken(instruction)
    values = tuple([value for value, _ in stack[below:]])

    def answered(answer):
        return follow_code(code, at, [*stack[:below], answer], world, then)

    return world.ask((instruction[1], values), answered)


def _jumps(instruction, stack):
    """Whether the instruction jumps; what a jump takes from the stack is taken."""
    if instruction[0] not in ("jump_pop", "jump_keep"):
        return instruction[0] == "jump"
    held = _passes(instruction[1], stack[-1])
    if instruction[0] == "jump_pop" or not held:
        stack.pop()
    return held


def _passes(test, held):
    """Whether a test holds for a value."""
    value, truth = held
    if test in ("true", "false"):
        return truth == (test == "true")
    return (value == ("none",)) == (test == "none")


def _change(instruction, stack, world):
    """Carry out an instruction that neither jumps nor makes an event."""
    word = instruction[0]
    if word == "name":
        stack.append(world.holds[instruction[1]])
    elif word in CONSTANTS:
        stack.append(((word,), word == "true"))
    elif word == "copy":
        stack.append(stack[-1])
    elif word in ("swap", "under"):
        top = stack.pop()
        stack.insert(len(stack) - FORMS[word][1] + 1, top)
    else:
        value, truth = stack.pop()
        if word == "not":
            stack.append(held_constant(not truth))
        elif word == "isnone":
            stack.append(held_constant(value == ("none",)))


class CodeRun(OneRun):
    """A run that counts the instructions that are carried out."""

    def __init__(self, holds, answers):
        OneRun.__init__(self, holds, answers)
        self.steps = 0

    def reach(self, path):
        """Count an instruction."""
        self.steps += 1


def _run(code, kinds, answers):
    """The run of the code with these kinds and answers, and its outcome."""
    check_code(code)
    names = names_in_code(code)
    check_kinds(kinds, names)
    check_answers(answers)
    run = CodeRun(holds_of(kinds, names), answers)
    return run, follow_code(code, 0, [], run, lambda held: ("value", held[0]))


def run_code(code, kinds, answers):
    """The events that happen and the outcome, for kinds of the variables and a list of answers."""
    run, outcome = _run(code, kinds, answers)
    return (run.events, outcome)


def count_steps(code, kinds, answers):
    """How many instructions are carried out, that of a last event without an answer included."""
    run, _ = _run(code, kinds, answers)
    return run.steps
