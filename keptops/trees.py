"""Call trees, the complete runs in them, and the least input that parts two expressions."""

from keptops.errors import InvalidNumber, InvalidRun, TooMany
from keptops.evaluation import ANSWERS, KINDS, World, check_kinds, follow, held_object, holds_of, settled
from keptops.exprs import check_expression, is_integer, places_of, variables_of

MOST_SURVEYED_VARIABLES = 3
MOST_SURVEYED_PLACES = 4


class AllRuns(World):
    """A world in which each event is answered in every way, which makes a call tree."""

    def __init__(self, holds):
        World.__init__(self, holds)
        self.asked = 0

    def ask(self, event, then):
        """The tree of an event, with what follows each answer that does not fail."""
        number = self.asked
        self.asked = number + 1
        behind = [then(held_object(("event", number), kind)) for kind in KINDS]
        self.asked = number
        return ("ask", event, tuple(behind))


def tree_of(expr, holds):
    """The call tree of an expression that is known to be right, where its variables hold this."""
    return follow(settled(expr, holds), (), AllRuns(holds), lambda held: ("done", held[0]))


def call_tree(expr, kinds):
    """The call tree of the expression, for these kinds of its variables."""
    check_expression(expr)
    names = variables_of([expr])
    check_kinds(kinds, names)
    return tree_of(expr, holds_of(kinds, names))


def count_runs(expr, kinds):
    """How many complete runs there are with these kinds."""
    return _count(call_tree(expr, kinds))


def _count(tree):
    """How many complete runs a tree has; each event may be the last one, if it fails."""
    if tree[0] == "done":
        return 1
    return 1 + sum([_count(behind) for behind in tree[2]])


def nth_run(expr, kinds, n):
    """The complete run with the number n."""
    tree = call_tree(expr, kinds)
    if not is_integer(n) or not 0 <= n < _count(tree):
        raise InvalidNumber("no complete run has this number")
    answers = []
    left = n
    while tree[0] == "ask":
        counts = [*[_count(behind) for behind in tree[2]], 1]
        at = 0
        while left >= counts[at]:
            left = left - counts[at]
            at += 1
        answers.append(ANSWERS[at])
        if ANSWERS[at] == "x":
            return answers
        tree = tree[2][at]
    return answers


def run_number(expr, kinds, answers):
    """The number of a complete run."""
    tree = call_tree(expr, kinds)
    if not isinstance(answers, list):
        raise InvalidRun("this is no list of answers")
    number = 0
    for answer in answers:
        # A failure ends a run; behind it, as behind a value, an answer is one too many.
        if answer not in ANSWERS or tree[0] != "ask":
            raise InvalidRun("an answer is wrong or not used")
        at = ANSWERS.index(answer)
        number = number + sum([_count(behind) for behind in tree[2][:at]])
        tree = ("failed",) if answer == "x" else tree[2][at]
    if tree[0] == "ask":
        raise InvalidRun("the run wants an answer")
    return number


def all_kinds(names):
    """All kinds of the names, as a list of dicts: in the order t, f, n, the first name first."""
    worlds = [{}]
    for name in names:
        worlds = [{**kinds, name: kind} for kinds in worlds for kind in KINDS]
    return worlds


def check_surveyable(exprs):
    """Raise InvalidExpression for the first one that is none, then TooMany if they have too many inputs."""
    for expr in exprs:
        check_expression(expr)
    if len(variables_of(exprs)) > MOST_SURVEYED_VARIABLES:
        raise TooMany("too many variables")
    if any([places_of(expr) > MOST_SURVEYED_PLACES for expr in exprs]):
        raise TooMany("too many event places")


def parting(one, other):
    """None if the two are alike, else the least input, kinds and answers, that parts them."""
    return _least_parting(one, other, False)


def parting_test(one, other):
    """The same as parting, where values count as the same if both are true, or both are not."""
    return _least_parting(one, other, True)


def _least_parting(one, other, as_test):
    check_surveyable([one, other])
    names = variables_of([one, other])
    for kinds in all_kinds(names):
        holds = holds_of(kinds, names)
        answers = parting_answers(tree_of(one, holds), tree_of(other, holds), kinds, as_test)
        if answers is not None:
            return (kinds, answers)
    return None


def parting_answers(one, other, kinds, as_test):
    """The fewest, then least answers behind which the trees tell different things, or None."""
    level = [(one, other, [])]
    # Level by level, as fewer answers count ahead of lesser ones. Where an event of both
    # fails, both end alike, so no least answers have a failure.
    while len(level) > 0:
        behind = []
        for first, second, answers in level:
            if _differ(first, second, kinds, answers, as_test):
                return answers
            if first[0] == "ask":
                for at, kind in enumerate(KINDS):
                    behind.append((first[2][at], second[2][at], [*answers, kind]))
        level = behind
    return None


def _differ(one, other, kinds, answers, as_test):
    """Whether the trees begin differently: with other events, or with another outcome."""
    if one[0] == "done" and other[0] == "done" and as_test:
        return _is_true(one[1], kinds, answers) != _is_true(other[1], kinds, answers)
    return one[0] != other[0] or one[1] != other[1]


def _is_true(value, kinds, answers):
    """Whether a value is true behind these answers."""
    if value[0] != "object":
        return value == ("true",)
    word, at = value[1]
    return (kinds[at] if word == "name" else answers[at]) == "t"
