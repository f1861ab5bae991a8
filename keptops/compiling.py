"""Expressions as flat code, and flat code without idle jumps."""

from keptops.errors import TooMany
from keptops.evaluation import holds_of
from keptops.exprs import CONSTANTS, check_expression, operands, variables_of
from keptops.flat import check_code, count_events, depths_of, follow_code, is_jump, names_in_code
from keptops.trees import (
    MOST_SURVEYED_PLACES, MOST_SURVEYED_VARIABLES, AllRuns, all_kinds, check_surveyable, parting_answers, tree_of,
)

# The test with which the first operand of each word is the result.
KEEPING_TESTS = {"and": "false", "or": "true", "default": "given"}
# Whether a test holds, by a test that holds for the same value; where it stands here that is sure.
SETTLED = {
    ("true", "true"): True, ("true", "false"): False, ("true", "none"): False, ("true", "given"): True,
    ("none", "true"): False, ("none", "false"): True, ("none", "none"): True, ("none", "given"): False,
    ("false", "true"): False, ("false", "false"): True,
    ("given", "none"): False, ("given", "given"): True,
}


def compile_expression(expr):
    """Code that does the same as the expression."""
    check_expression(expr)
    return _threaded(_code(expr, 0))


def _code(expr, begin):
    """The code of an expression that begins with the instruction of this number."""
    word = expr[0]
    if word == "name" or word in CONSTANTS:
        return [expr]
    if word == "if":
        return _choice_code(expr, begin)
    if word == "compare":
        return _chain_code(expr, begin)
    if word in KEEPING_TESTS:
        first = _code(expr[1], begin)
        second = _code(expr[2], begin + len(first) + 1)
        to = begin + len(first) + 1 + len(second)
        return [*first, ("jump_keep", KEEPING_TESTS[word], to), *second]
    code = []
    for operand in operands(expr):
        code.extend(_code(operand, begin + len(code)))
    code.append(("call", expr[1], len(expr[2])) if word == "call" else (word,))
    return code


def _choice_code(expr, begin):
    """The code of an `if`."""
    _, condition, yes, no = expr
    first = _code(condition, begin)
    second = _code(yes, begin + len(first) + 1)
    other = begin + len(first) + len(second) + 2
    third = _code(no, other)
    return [*first, ("jump_pop", "false", other), *second, ("jump", other + len(third)), *third]


def _chain_code(expr, begin):
    """The code of a comparison: ahead of each link but the last one its right value is put aside."""
    _, first, links = expr
    code = _code(first, begin)
    waiting = []
    for number, (sign, right) in enumerate(links):
        code.extend(_code(right, begin + len(code)))
        if number + 1 < len(links):
            code.extend([("copy",), ("under",), ("compare", sign)])
            waiting.append(len(code))
            code.append(("jump_keep", "false", 0))
        else:
            code.append(("compare", sign))
    if len(waiting) > 0:
        # An answer that ends the comparison early lies above the value that was put aside.
        clearing = begin + len(code) + 1
        for at in waiting:
            code[at] = ("jump_keep", "false", clearing)
        code.extend([("jump", clearing + 2), ("swap",), ("pop",)])
    return code


def code_parting(code, expr):
    """None if both do the same, else the least input, kinds and answers, for which they do not."""
    check_code(code)
    check_surveyable([expr])
    names = _names_of_both(code, expr)
    if count_events(code) > MOST_SURVEYED_PLACES or len(names) > MOST_SURVEYED_VARIABLES:
        raise TooMany("too many calls and comparisons, or variables")
    for kinds in all_kinds(names):
        holds = holds_of(kinds, names)
        tree = follow_code(code, 0, [], AllRuns(holds), lambda held: ("done", held[0]))
        answers = parting_answers(tree, tree_of(expr, holds), kinds, False)
        if answers is not None:
            return (kinds, answers)
    return None


def _names_of_both(code, expr):
    """The ascending variables of the code and the expression."""
    names = names_in_code(code)
    return sorted([*names, *[name for name in variables_of([expr]) if name not in names]])


def threaded(code):
    """Code that does the same without idle jumps and without instructions that cannot be come to."""
    check_code(code)
    return _threaded(code)


def _threaded(code):
    """The same for code that is known to be right."""
    now = list(code)
    better = _without_idle(_direct(now))
    while better != now:
        now = better
        better = _without_idle(_direct(now))
    return now


def _direct(code):
    """The code with each jump led on as far as it goes; no way takes more steps than before."""
    found = []
    for instruction in code:
        led = _led_on(code, instruction)
        while led != instruction:
            instruction = led
            led = _led_on(code, instruction)
        found.append(instruction)
    return found


def _led_on(code, jump):
    """The instruction, or, if it is a jump that has to go on at its target, one that goes there at once."""
    if not is_jump(jump) or jump[-1] == len(code):
        return jump
    to = jump[-1]
    target = code[to]
    if target[0] == "jump":
        return (*jump[:-1], target[1])
    if jump[0] != "jump_keep":
        return jump
    test = jump[1]
    if target[0] == "pop":
        return ("jump_pop", test, to + 1)
    if target[0] not in ("jump_pop", "jump_keep") or (test, target[1]) not in SETTLED:
        return jump
    if SETTLED[(test, target[1])]:
        return (target[0], test, target[2])
    return ("jump_pop", test, to + 1)


def _without_idle(code):
    """The code without instructions that cannot be come to, and without jumps to the next instruction."""
    reached = depths_of(code)
    kept = [at for at in range(len(code)) if reached[at] is not None and code[at] != ("jump", at + 1)]
    numbers = {}
    many = 0
    for at in range(len(code) + 1):
        numbers[at] = many
        if at in kept:
            many += 1
    found = []
    for at in kept:
        instruction = code[at]
        found.append((*instruction[:-1], numbers[instruction[-1]]) if is_jump(instruction) else instruction)
    return found
