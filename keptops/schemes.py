"""Rewriting schemes: in which senses they hold, and their use on the parts of an expression."""

from keptops.errors import InvalidExpression, InvalidParts, InvalidScheme, InvalidSense, NoUse, OperandError
from keptops.exprs import all_parts, check_expression, is_name, operands, places_of, variables_of, with_operands
from keptops.parts import not_too_large, part_at, replaced
from keptops.trees import MOST_SURVEYED_PLACES, MOST_SURVEYED_VARIABLES, parting, parting_test

SENSES = ("value", "test", "pure", "pure test")
MOST_STEPS = 20


def check_scheme(scheme):
    """Raise InvalidScheme if the value is not a scheme."""
    if not isinstance(scheme, tuple) or len(scheme) != 2:
        raise InvalidScheme("this is not a pair")
    try:
        for side in scheme:
            check_expression(side)
    except InvalidExpression:
        raise InvalidScheme("a side is not an expression") from None
    names = variables_of(scheme)
    letters = _letters_of(scheme)
    if any([letter in names for letter in letters]):
        raise InvalidScheme("a letter is a variable, too")
    if len(names) + len(letters) > MOST_SURVEYED_VARIABLES:
        raise InvalidScheme("too many letters and variables")
    if any([places_of(side) > MOST_SURVEYED_PLACES for side in scheme]):
        raise InvalidScheme("too many event places on a side")


def _is_letter(expr):
    """Whether the expression is a call of a letter."""
    return expr[0] == "call" and len(expr[2]) == 0


def _letters_of(exprs):
    """The list of the letters that stand in the expressions, each once."""
    letters = []
    for expr in exprs:
        for part in all_parts(expr):
            if _is_letter(part) and part[1] not in letters:
                letters.append(part[1])
    return letters


def breaking(scheme, sense):
    """None if the scheme holds in this sense, else the least input that breaks it."""
    check_scheme(scheme)
    if sense not in SENSES:
        raise InvalidSense("there is no such sense")
    return _breaking(scheme, sense)


def _breaking(scheme, sense):
    left, right = scheme
    if sense in ("pure", "pure test"):
        parts = {letter: ("name", letter) for letter in _letters_of(scheme)}
        left, right = _put(left, parts), _put(right, parts)
    return parting_test(left, right) if sense in ("test", "pure test") else parting(left, right)


def senses(scheme):
    """The senses in which the scheme holds."""
    check_scheme(scheme)
    return tuple([sense for sense in SENSES if _breaking(scheme, sense) is None])


def put(expr, parts):
    """The expression with the parts in the places of the calls without operands of their names."""
    check_expression(expr)
    if not isinstance(parts, dict) or not all([is_name(letter) for letter in parts]):
        raise InvalidParts("this is no dict with names")
    try:
        for part in parts.values():
            check_expression(part)
    except InvalidExpression:
        raise InvalidParts("a part is not an expression") from None
    return not_too_large(_put(expr, parts))


def _put(expr, parts):
    """What put returns, without a look at its size."""
    if _is_letter(expr) and expr[1] in parts:
        return parts[expr[1]]
    return with_operands(expr, [_put(operand, parts) for operand in operands(expr)])


def is_test(expr, path, as_test):
    """Whether only the truth of the value of the part at the path counts; as_test tells it of the whole."""
    check_expression(expr)
    part_at(expr, path)
    part = expr
    truth_counts = as_test
    for at in path:
        truth_counts = _is_test_operand(part[0], at, truth_counts)
        part = operands(part)[at]
    return truth_counts


def _is_test_operand(word, at, as_test):
    """The same for an operand, told by the word of its expression and by its number."""
    if word == "not" or (word == "if" and at == 0):
        return True
    if word in ("and", "or", "if") or (word == "default" and at == 1):
        return as_test
    return False


def use(scheme, backwards, expr, path, as_test):
    """The expression with the part at the path rewritten by the scheme."""
    check_scheme(scheme)
    check_expression(expr)
    part = part_at(expr, path)
    side, other = (scheme[1], scheme[0]) if backwards else scheme
    found = {}
    if not _matches(side, part, found):
        raise NoUse("the scheme does not match the part")
    # What holds as value holds in all senses, what holds as test or as pure holds as pure
    # test. So the one sense that wants the least of those that are allowed here decides.
    is_pure = _is_pure_use(other, found)
    if is_test(expr, path, as_test):
        sense = "pure test" if is_pure else "test"
    else:
        sense = "pure" if is_pure else "value"
    if _breaking(scheme, sense) is not None:
        raise NoUse("the scheme is not right for this part")
    return not_too_large(replaced(expr, path, _put(other, found)))


def _matches(side, part, found):
    """Whether the side gives the part; what is put for its letters is added to `found`."""
    if _is_letter(side):
        return found.setdefault(side[1], part) == part
    below = operands(part)
    if len(operands(side)) != len(below) or with_operands(side, below) != part:
        return False
    return all([_matches(operand, other, found) for operand, other in zip(operands(side), below)])


def _is_pure_use(other, found):
    """Whether nothing that is put has event places, and the other side has no further letter."""
    if any([places_of(found[letter]) > 0 for letter in found]):
        return False
    return all([letter in found for letter in _letters_of([other])])


def check_chain(expr, steps, end, as_test):
    """None if the steps lead from expr to end, else what is wrong first."""
    check_expression(expr)
    check_expression(end)
    if not isinstance(steps, list) or len(steps) > MOST_STEPS:
        return ("steps",)
    now = expr
    for number, step in enumerate(steps):
        if not isinstance(step, tuple) or len(step) != 3 or not isinstance(step[1], bool):
            return ("step", number)
        scheme, backwards, path = step
        try:
            now = use(scheme, backwards, now, path, as_test)
        except OperandError:
            return ("step", number)
    return None if now == end else ("end",)
