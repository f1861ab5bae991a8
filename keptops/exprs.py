"""Expressions: their forms, the numbers that bound them, and what stands in them."""

from keptops.errors import InvalidExpression

SIGNS = ("<", "<=", ">", ">=", "==", "!=")
CONSTANTS = ("none", "true", "false")
BARRED = (
    "and", "or", "not", "if", "else", "is", "none", "true", "false",
    "set", "give", "try", "except", "end", "then", "program", "keep", "self",
)
# How many items a tuple of each word has in which all items but the word are expressions.
LENGTHS = {
    "none": 1, "true": 1, "false": 1, "not": 2, "isnone": 2, "and": 3, "or": 3, "default": 3, "if": 4,
}
MOST_LETTERS = 8
MOST_OPERANDS = 3
MOST_LINKS = 4
MOST_PARTS = 40
MOST_LEVELS = 12
MOST_VARIABLES = 4
MOST_PLACES = 6


def is_integer(value):
    """Whether the value is an integer; a boolean is none."""
    return isinstance(value, int) and not isinstance(value, bool)


def is_name(value):
    """Whether the value may be the name of a variable or of a function."""
    if not isinstance(value, str) or not 1 <= len(value) <= MOST_LETTERS:
        return False
    return value not in BARRED and all(["a" <= letter <= "z" for letter in value])


def check_expression(expr):
    """Raise InvalidExpression if the value is not an expression."""
    waiting = [(expr, 1)]
    names = {}
    many = 0
    places = 0
    # Nothing is looked at beyond a bound, so the size of a wrong value does not matter.
    while waiting:
        part, level = waiting.pop()
        many += 1
        if many > MOST_PARTS or level > MOST_LEVELS or not _has_form(part):
            raise InvalidExpression("this is not an expression")
        if part[0] == "name":
            names[part[1]] = True
        places = places + _own_places(part)
        if len(names) > MOST_VARIABLES or places > MOST_PLACES:
            raise InvalidExpression("too many variables or event places")
        waiting.extend([(operand, level + 1) for operand in operands(part)])


def _has_form(value):
    """Whether the value is built like an expression, whatever its operands are."""
    if not isinstance(value, tuple) or len(value) == 0 or not isinstance(value[0], str):
        return False
    word = value[0]
    if word == "name":
        return len(value) == 2 and is_name(value[1])
    if word == "call":
        return len(value) == 3 and is_name(value[1]) and _is_tuple(value[2], 0, MOST_OPERANDS)
    if word == "compare":
        return len(value) == 3 and _is_tuple(value[2], 1, MOST_LINKS) and _are_links(value[2])
    return word in LENGTHS and len(value) == LENGTHS[word]


def _is_tuple(value, least, most):
    return isinstance(value, tuple) and least <= len(value) <= most


def _are_links(values):
    """Whether each of the values is built like a link, whatever its expression is."""
    return all([_is_tuple(value, 2, 2) and value[0] in SIGNS for value in values])


def operands(expr):
    """The tuple of the operands, in the order of their numbers."""
    word = expr[0]
    if word == "name":
        return ()
    if word == "call":
        return expr[2]
    if word == "compare":
        return (expr[1], *[link[1] for link in expr[2]])
    return expr[1:]


def with_operands(expr, parts):
    """The same expression with the parts in the places of its operands."""
    word = expr[0]
    if word == "name":
        return expr
    if word == "call":
        return ("call", expr[1], tuple(parts))
    if word == "compare":
        signs = [link[0] for link in expr[2]]
        return ("compare", parts[0], tuple(zip(signs, parts[1:])))
    return (word, *parts)


def all_parts(expr):
    """The list of the expression and all expressions within it."""
    found = [expr]
    for operand in operands(expr):
        found = found + all_parts(operand)
    return found


def variables_of(exprs):
    """The ascending list of the variables of several expressions, which are known to be right."""
    names = {}
    for expr in exprs:
        for part in all_parts(expr):
            if part[0] == "name":
                names[part[1]] = True
    return sorted(list(names))


def places_of(expr):
    """How many event places an expression has that is known to be right."""
    return sum([_own_places(part) for part in all_parts(expr)])


def _own_places(expr):
    """How many event places belong to the expression itself, and not to its operands."""
    if expr[0] == "call":
        return 1
    return len(expr[2]) if expr[0] == "compare" else 0


def variables(expr):
    """The ascending list of the variables."""
    check_expression(expr)
    return variables_of([expr])


def size(expr):
    """How many expressions stand in the expression, itself included."""
    check_expression(expr)
    return len(all_parts(expr))


def event_places(expr):
    """How many calls and links stand in the expression."""
    check_expression(expr)
    return places_of(expr)
