"""What an expression does: the values, the events, and how they follow one another.

How evaluation goes on is told once, in `follow`, and by continuation: it never returns the
value of an expression, but hands what is *held* of it to a function `then`, and returns what
that makes of it. So a world may end at an event, go on with one answer, or with each of them.

What is held is a tuple `(value, truth, path)`: the value, whether it is true, and the path of
the part that it came from. (Of an object alone it is the first two of these.)
"""

from keptops.errors import InvalidWorld
from keptops.exprs import CONSTANTS, check_expression, operands, variables_of, with_operands

KINDS = ("t", "f", "n")
ANSWERS = ("t", "f", "n", "x")


def held_object(source, kind):
    """The value of an object, and whether it is true."""
    if kind == "n":
        return (("none",), False)
    return (("object", source), kind == "t")


def held_constant(truth):
    """The constant for a truth, and whether it is true."""
    return (("true",), True) if truth else (("false",), False)


def holds_of(kinds, names):
    """What each of the names holds with these kinds."""
    return {name: held_object(("name", name), kinds[name]) for name in names}


class World:
    """What variables hold. A class below tells in `ask(event, then)` what an event leads to."""

    def __init__(self, holds):
        self.holds = holds

    def reach(self, path):
        """Hear that the evaluation of the part at this path begins."""


class OneRun(World):
    """A world with one list of answers, in which the events are written down."""

    def __init__(self, holds, answers):
        World.__init__(self, holds)
        self.answers = answers
        self.events = []

    def ask(self, event, then):
        """Let an event happen, and go on with its answer if there is one."""
        number = len(self.events)
        self.events.append(event)
        if number >= len(self.answers):
            return ("wanting",)
        if self.answers[number] == "x":
            return ("failed", number)
        return then(held_object(self.source(number), self.answers[number]))

    def source(self, number):
        """Where the answer of the event with this number comes from."""
        return ("event", number)


def follow(expr, path, world, then):
    """Evaluate the expression at this path, and return what `then` makes of what is held."""
    world.reach(path)
    word = expr[0]
    if word == "name":
        value, truth = world.holds[expr[1]]
        return then((value, truth, path))
    if word in CONSTANTS:
        return then(((word,), word == "true", path))
    if word == "call":
        return _follow_call(expr, path, world, then, ())
    if word == "compare":
        return follow(expr[1], path + (0,), world, lambda held: _follow_link(expr, path, world, then, held[0], 0))
    return follow(expr[1], path + (0,), world, lambda held: _behind_first(expr, path, world, then, held))


def _follow_call(expr, path, world, then, values):
    """Evaluate the operands behind those whose values are there already, then call."""
    at = len(values)
    if at == len(expr[2]):
        return world.ask((expr[1], values), lambda answer: then((*answer, path)))

    def behind(held):
        return _follow_call(expr, path, world, then, (*values, held[0]))

    return follow(expr[2][at], path + (at,), world, behind)


def _follow_link(expr, path, world, then, left, at):
    """Evaluate the expression of the link with this number, and compare the value ahead with it."""
    sign, right = expr[2][at]

    def compared(held):
        return world.ask((sign, (left, held[0])), lambda answer: answered(held[0], answer))

    def answered(value, answer):
        if answer[1] and at + 1 < len(expr[2]):
            return _follow_link(expr, path, world, then, value, at + 1)
        return then((*answer, path))

    return follow(right, path + (at + 1,), world, compared)


def _behind_first(expr, path, world, then, held):
    """Go on behind the first operand of an expression that is neither a call nor a comparison."""
    value, truth, _ = held
    word = expr[0]
    if word == "not":
        return then((*held_constant(not truth), path))
    if word == "isnone":
        return then((*held_constant(value == ("none",)), path))
    at = _operand_behind(word, value, truth)
    if at == 0:
        return then(held)
    return follow(expr[at + 1], path + (at,), world, then)


def _operand_behind(word, value, truth):
    """The number of the operand whose value is the result, behind the first one's value."""
    if word == "if":
        return 1 if truth else 2
    if word == "and":
        return 1 if truth else 0
    if word == "or":
        return 0 if truth else 1
    return 1 if value == ("none",) else 0


def settled(expr, holds):
    """An expression that does the same where variables hold this, without the choices that are no longer open.

    What follows an event is evaluated once for each of its answers, so it is worth while to
    evaluate ahead what no answer changes.
    """
    word = expr[0]
    if word in ("call", "compare"):
        return with_operands(expr, [settled(operand, holds) for operand in operands(expr)])
    if _is_leaf(expr):
        return expr
    first = settled(expr[1], holds)
    if not _is_leaf(first):
        return (word, first, *[settled(operand, holds) for operand in expr[2:]])
    held = follow(first, (), World(holds), lambda found: found)
    if word in ("not", "isnone"):
        return _behind_first(expr, (), World(holds), lambda found: found[0], held)
    at = _operand_behind(word, held[0], held[1])
    return first if at == 0 else settled(expr[at + 1], holds)


def _is_leaf(expr):
    """Whether this is a variable or a constant."""
    return expr[0] == "name" or expr[0] in CONSTANTS


def check_answers(answers):
    """Raise InvalidWorld if this is no list of answers."""
    if not isinstance(answers, list) or not all([answer in ANSWERS for answer in answers]):
        raise InvalidWorld("this is no list of answers")


def check_kinds(kinds, names):
    """Raise InvalidWorld if this is no dict with a kind for each of the names."""
    if not isinstance(kinds, dict) or not all([name in kinds and kinds[name] in KINDS for name in names]):
        raise InvalidWorld("a variable has no kind")


def run_once(expr, kinds, answers):
    """The list of the events and the end: as an outcome, but with what is held for a value.

    Raise InvalidExpression and InvalidWorld as evaluate does.
    """
    check_expression(expr)
    names = variables_of([expr])
    check_kinds(kinds, names)
    check_answers(answers)
    world = OneRun(holds_of(kinds, names), answers)
    end = follow(expr, (), world, lambda held: ("value", held))
    return (world.events, end)


def evaluate(expr, kinds, answers):
    """The events that happen and the outcome, for kinds of the variables and a list of answers."""
    events, end = run_once(expr, kinds, answers)
    if end[0] == "value":
        return (events, ("value", end[1][0]))
    return (events, end)
