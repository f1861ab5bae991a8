"""The parts of an expression: where they stand, and what they do when it is evaluated."""

from keptops.errors import InvalidExpression, InvalidPath, TooLarge
from keptops.evaluation import KINDS, World, follow, held_object, holds_of, run_once
from keptops.exprs import check_expression, is_integer, operands, variables_of, with_operands
from keptops.trees import all_kinds, check_surveyable


def paths(expr):
    """The ascending list of the paths of all parts."""
    check_expression(expr)
    return _paths(expr, ())


def _paths(expr, path):
    """The ascending paths of the parts of the part at this path."""
    found = [path]
    for at, operand in enumerate(operands(expr)):
        found = found + _paths(operand, (*path, at))
    return found


def part_of(expr, path):
    """The part at the path."""
    check_expression(expr)
    return part_at(expr, path)


def part_at(expr, path):
    """The part at the path; raise InvalidPath if the value is no path that leads to one."""
    if not isinstance(path, tuple):
        raise InvalidPath("this is not a path")
    part = expr
    for at in path:
        below = operands(part)
        if not is_integer(at) or not 0 <= at < len(below):
            raise InvalidPath("the path leads to no part")
        part = below[at]
    return part


def with_part(expr, path, other):
    """The expression with another one in the place of the part at the path."""
    check_expression(expr)
    check_expression(other)
    part_at(expr, path)
    return not_too_large(replaced(expr, path, other))


def not_too_large(result):
    """What is built like an expression, unchanged; raise TooLarge if a number of it is exceeded."""
    try:
        check_expression(result)
    except InvalidExpression:
        raise TooLarge("the result is larger than an expression") from None
    return result


def replaced(expr, path, other):
    """An expression with another one in the place of the part at a path that is known to be right."""
    if len(path) == 0:
        return other
    parts = list(operands(expr))
    parts[path[0]] = replaced(parts[path[0]], path[1:], other)
    return with_operands(expr, parts)


class Reaches(World):
    """A world with each answer to each event, in which the least answers are kept by paths."""

    def __init__(self, holds):
        World.__init__(self, holds)
        self.answers = []
        self.begun = {}
        self.ended = {}

    def reach(self, path):
        """Keep the answers so far for a part whose evaluation begins."""
        self.keep(self.begun, path)

    def ask(self, event, then):
        """Go on with each answer; a failure leads to no part and to no value."""
        number = len(self.answers)
        for kind in KINDS:
            self.answers.append(kind)
            then(held_object(("event", number), kind))
            self.answers.pop()

    def end(self, held):
        """Keep the answers for the part whose value comes out."""
        self.keep(self.ended, held[2])

    def keep(self, table, path):
        """Keep the answers, unless as few or fewer are there: of as many the least ones come first."""
        if path not in table or len(self.answers) < len(table[path]):
            table[path] = list(self.answers)


def _reaches(expr, kinds):
    """The world with these kinds after all runs of the expression."""
    world = Reaches(holds_of(kinds, list(kinds)))
    follow(expr, (), world, lambda held: world.end(held))
    return world


def first_reach(expr, path):
    """The least input with which the part at the path is reached, or None if it is dead."""
    return _least_input(expr, path, False)


def first_result(expr, path):
    """The least input with which the value of the part at the path comes out, or None."""
    return _least_input(expr, path, True)


def _least_input(expr, path, as_result):
    """The least input that reaches the part at the path, or whose value comes from it; or None."""
    check_surveyable([expr])
    part_at(expr, path)
    for kinds in all_kinds(variables_of([expr])):
        world = _reaches(expr, kinds)
        least = world.ended if as_result else world.begun
        if path in least:
            return (kinds, least[path])
    return None


def origin(expr, kinds, answers):
    """The path of the part whose value comes out, or None if none does."""
    _, end = run_once(expr, kinds, answers)
    return end[1][2] if end[0] == "value" else None


def pruned(expr):
    """An expression that is alike and has no dead part; the expression itself if it has none."""
    check_surveyable([expr])
    alive = {}
    for kinds in all_kinds(variables_of([expr])):
        begun = _reaches(expr, kinds).begun
        for path in begun:
            alive[path] = True
    if all([path in alive for path in _paths(expr, ())]):
        return expr
    return _alive_part(expr, (), alive)


def _alive_part(expr, path, alive):
    """The part at this path, which is alive, without the dead parts in it.

    Only where a first operand always decides the same way a part is dead whose surroundings are not.
    """
    word = expr[0]
    live = [at for at in range(len(operands(expr))) if (*path, at) in alive]
    parts = [_alive_part(operands(expr)[at], (*path, at), alive) for at in live]
    if len(live) == len(operands(expr)):
        return with_operands(expr, parts)
    if word == "if":
        # The condition stays, for its events: always true ahead of `and`, or never ahead of `or`.
        return ("and" if live[1] == 1 else "or", *parts)
    return parts[0]
