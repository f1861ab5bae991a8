"""What several tests need: samples, wrong values, and an evaluation of its own to compare with.

The evaluation here is written in another way than the program's (it goes on step by step, and
ends by an error), so that both are wrong in the same way only if both misread the document.
"""

import copy
import itertools
import random
import time
import unittest

KINDS = ("t", "f", "n")
ANSWERS = ("t", "f", "n", "x")
SIGNS = ("<", "<=", ">", ">=", "==", "!=")
BARRED = (
    "and", "or", "not", "if", "else", "is", "none", "true", "false",
    "set", "give", "try", "except", "end", "then", "program", "keep", "self",
)

A, B, C, D, E = [("name", name) for name in "abcde"]
NONE, TRUE, FALSE = ("none",), ("true",), ("false",)
SECONDS = 4


def call(word, *operands):
    return ("call", word, operands)


def compare(first, *links):
    return ("compare", first, links)


def obj(*source):
    return ("object", source)


def nested(levels, base=A):
    """An expression with `levels` levels more than the base."""
    for _ in range(levels):
        base = ("not", base)
    return base


def joined(expressions):
    """Expressions joined by `and` in a balanced tree, which needs few levels."""
    expressions = list(expressions)
    while len(expressions) > 1:
        pairs = [expressions[at:at + 2] for at in range(0, len(expressions), 2)]
        expressions = [("and", *pair) if len(pair) == 2 else pair[0] for pair in pairs]
    return expressions[0]


class Stop(Exception):
    """The evaluation ends here, with an outcome."""


class Told:
    """One evaluation: `events`, `outcome`, the `reached` paths, and the `origin` of the value."""

    def __init__(self, expr, kinds, answers):
        self.kinds, self.answers = kinds, answers
        self.events, self.reached, self.origin = [], [], None
        try:
            value, self.origin = self.value(expr, ())
            self.outcome = ("value", value)
        except Stop as stop:
            self.outcome = stop.args[0]

    def seen(self, source, kind):
        return NONE if kind == "n" else ("object", source)

    def true(self, value):
        if value[0] != "object":
            return value == TRUE
        word, at = value[1]
        return (self.kinds[at] if word == "name" else self.answers[at]) == "t"

    def event(self, word, *values):
        number = len(self.events)
        self.events.append((word, values))
        if number == len(self.answers):
            raise Stop(("wanting",))
        if self.answers[number] == "x":
            raise Stop(("failed", number))
        return self.seen(("event", number), self.answers[number])

    def value(self, expr, path):
        """The value, and the path of the part that it comes from."""
        self.reached.append(path)

        def operand(part, number):
            return self.value(part, path + (number,))

        match expr:
            case ("name", x):
                return self.seen(("name", x), self.kinds[x]), path
            case ("none" | "true" | "false",):
                return expr, path
            case ("not", a):
                return (FALSE if self.true(operand(a, 0)[0]) else TRUE), path
            case ("isnone", a):
                return (TRUE if operand(a, 0)[0] == NONE else FALSE), path
            case ("and", a, b):
                first = operand(a, 0)
                return operand(b, 1) if self.true(first[0]) else first
            case ("or", a, b):
                first = operand(a, 0)
                return first if self.true(first[0]) else operand(b, 1)
            case ("default", a, b):
                first = operand(a, 0)
                return operand(b, 1) if first[0] == NONE else first
            case ("if", c, a, b):
                return operand(a, 1) if self.true(operand(c, 0)[0]) else operand(b, 2)
            case ("call", f, parts):
                return self.event(f, *[operand(part, at)[0] for at, part in enumerate(parts)]), path
            case ("compare", first, links):
                left = operand(first, 0)[0]
                for at, (sign, part) in enumerate(links):
                    right = operand(part, at + 1)[0]
                    answer = self.event(sign, left, right)
                    left = right
                    if not self.true(answer):
                        break
                return answer, path


def told(expr, kinds, answers):
    """What evaluate is to return."""
    run = Told(expr, kinds, answers)
    return (run.events, run.outcome)


def below(expr):
    """The operands by their numbers."""
    match expr:
        case ("name", _) | ("none" | "true" | "false",):
            return []
        case ("call", _, parts):
            return list(parts)
        case ("compare", first, links):
            return [first] + [part for _, part in links]
        case (_, *parts):
            return parts


def walk(expr, path=()):
    """All parts with their paths."""
    yield path, expr
    for at, part in enumerate(below(expr)):
        yield from walk(part, path + (at,))


def names_in(*exprs):
    return sorted({part[1] for expr in exprs for _, part in walk(expr) if part[0] == "name"})


def places_in(expr):
    return sum({"call": 1, "compare": len(part[-1])}.get(part[0], 0) for _, part in walk(expr))


def levels_in(expr):
    return 1 + max([levels_in(part) for part in below(expr)], default=0)


def worlds(names):
    """All kinds of the names, in order."""
    return [dict(zip(names, kinds)) for kinds in itertools.product(KINDS, repeat=len(names))]


def answer_lists(most):
    """All lists of at most so many answers: the shorter ones first, then in order."""
    return [list(answers) for many in range(most + 1) for answers in itertools.product(ANSWERS, repeat=many)]


def runs_of(expr, kinds, answers=()):
    """All complete runs, in order."""
    if told(expr, kinds, list(answers))[1] != ("wanting",):
        return [list(answers)]
    return [run for answer in ANSWERS for run in runs_of(expr, kinds, (*answers, answer))]


def true_value(value, kinds, answers):
    if value[0] != "object":
        return value == TRUE
    word, at = value[1]
    return (kinds[at] if word == "name" else answers[at]) == "t"


WORDS = ("name", "none", "true", "false", "not", "isnone", "and", "or", "default", "if", "call", "compare")


def some_expression(source, levels, names="abc", places=4):
    """An expression made by a source of random numbers, with at most so many levels and event places."""
    left = [places]

    def made(levels):
        word = source.choice(WORDS[:4] if levels <= 1 else WORDS + WORDS[4:])
        many = {"call": source.randint(0, 3), "compare": source.randint(1, 3)}.get(word)
        if word == "call" and left[0] >= 1:
            left[0] -= 1
            return call(source.choice("fg"), *[made(levels - 1) for _ in range(many)])
        if word == "compare" and left[0] >= many:
            left[0] -= many
            return compare(made(levels - 1), *[(source.choice(SIGNS), made(levels - 1)) for _ in range(many)])
        if word in ("not", "isnone"):
            return (word, made(levels - 1))
        if word in ("and", "or", "default"):
            return (word, made(levels - 1), made(levels - 1))
        if word == "if":
            return (word, made(levels - 1), made(levels - 1), made(levels - 1))
        if word in ("none", "true", "false"):
            return (word,)
        return ("name", source.choice(names))

    while True:
        left[0] = places
        expr = made(levels)
        if sum(1 for _ in walk(expr)) <= 40:
            return expr


def some_expressions(seed, many, levels=4, names="abc", places=4):
    source = random.Random(seed)
    return [some_expression(source, levels, names, places) for _ in range(many)]


def small_expressions():
    """Each form of expression, with each of a few operands at each place."""
    leaves = [A, B, NONE, TRUE, FALSE, call("f"), call("g", A)]
    yield from leaves
    for first in leaves:
        yield from [("not", first), ("isnone", first), call("h", first)]
        for second in leaves:
            for word in ("and", "or", "default"):
                yield (word, first, second)
            yield call("h", first, second)
            yield compare(first, ("<", second))
            for third in (A, TRUE, call("f")):
                yield ("if", first, second, third)
                yield compare(first, ("==", second), (">", third))


def deep(kind, levels):
    """A value nested so deep."""
    value = kind()
    for _ in range(levels - 1):
        value = {"a": value} if kind is dict else kind([value])
    return value


def no_values():
    """Values that are nothing at all: no expression, and no kinds, answers, path, number or text either."""
    return [
        None, True, False, 0, 1, -1, 10 ** 29, -10 ** 29, "", "a", "none", "a" * 2000, " \t\n", ["a"], [None],
        {"b": 1}, {(): {}}, (None,), (True,), ("a",), ((),), ([],), ("a", "b", "c", "d", "e"),
        deep(list, 50), deep(tuple, 50), deep(dict, 50), ("not",) * 30000, [0] * 30000,
    ]


def bad_expressions():
    """Values that are no expressions, by each way in which they may fail to be one."""
    bad = [*no_values(), (), [], {}]
    words = ["names", "NAME", "", " ", "is", "is none", "self", "call ", "<", "if not", "object", "event", "ask"]
    bad += [(word,) for word in words] + [(word, A) for word in words] + [(word, A, B) for word in words]
    # A part more or less.
    bad += [("name",), ("name", "a", "b"), ("none", "none"), ("none", A), ("true", A), ("false", FALSE)]
    bad += [("not",), ("not", A, B), ("isnone",), ("isnone", A, B)]
    bad += [(word, *parts) for word in ("and", "or", "default") for parts in [(), (A,), (A, B, C)]]
    bad += [("if", *parts) for parts in [(), (A,), (A, B), (A, B, C, D)]]
    bad += [("call",), ("call", "f"), ("call", "f", (), ()), ("call", "f", A), ("call", "f", (A, B, C, D))]
    bad += [("compare",), ("compare", A), ("compare", A, ()), ("compare", A, ("<", B)), ("compare", A, "<", B)]
    bad += [compare(A, *[("<", B)] * 5), compare(A, ("<",)), compare(A, ("<", B, C)), compare(A, ())]
    # Wrong signs and names.
    bad += [compare(A, (sign, B)) for sign in ["=", "<>", "", " <", "is", "??", "and", None, 0, True, ["<"], ("<",)]]
    names = ["", "A", "aB", "a1", "a_b", "a b", " a", "a\n", "abcdefghi", "a" * 2000, *BARRED]
    names += [None, True, 0, ["a"], ("a",), b"a", {"a": 1}]
    bad += [("name", name) for name in names] + [("call", name, ()) for name in names]
    # Lists in the place of tuples.
    bad += [["name", "a"], ["none"], ("call", "f", []), ("call", "f", [A]), ("compare", A, [("<", B)])]
    bad += [("compare", A, (["<", B],)), ["not", A], ("not", ["name", "a"]), ["and", A, B], ("if", A, B, ["none"])]
    # Other values in the places of words and operands.
    bad += [(word, "a") for word in (None, True, 0, ("name",), ["name"], {}, deep(list, 49))]
    bad += [(None,), (True,), (0,), ("call", "f", "a"), ("call", "f", None), ("call", "f", {}), ("compare", A, "<a")]
    for wrong in [None, True, False, 0, "a", (), [], {}, ("a",), deep(tuple, 40), [0] * 20000]:
        bad += [("not", wrong), ("isnone", wrong), call("f", wrong), call("f", A, wrong), call("f", A, B, wrong)]
        bad += [("and", wrong, A), ("or", A, wrong), ("default", wrong, A), ("default", A, wrong)]
        bad += [("if", wrong, A, B), ("if", A, wrong, B), ("if", A, B, wrong)]
        bad += [compare(wrong, ("<", A)), compare(A, ("<", wrong)), compare(A, ("<", B), (">", wrong))]
        bad += [nested(10, wrong)]
    # Just beyond each bound.
    bad += [too_many_parts(), too_many_levels(), too_many_variables(), too_many_calls(), too_many_links()]
    bad += [nested(48), ("call", "f", (A,) * 20000), ("compare", A, (("<", A),) * 5000), ("and",) + (A,) * 20000]
    return bad


def most_parts():
    """40 expressions: ("not", e) and 20 leaves joined by 19."""
    return ("not", joined([A, B] * 10))


def too_many_parts():
    return ("not", ("not", joined([A, B] * 10)))


def most_levels():
    return nested(11)


def too_many_levels():
    return nested(12)


def most_variables():
    return joined([A, B, C, D, A])


def too_many_variables():
    return joined([A, B, C, D, E])


def most_places():
    return ("and", joined([call("f"), call("g", A)]), compare(A, ("<", B), ("<=", C), (">", D), ("!=", A)))


def too_many_calls():
    return ("and", most_places(), call("h"))


def too_many_links():
    return ("or", most_places(), compare(A, ("<", B)))


def large_surveyable(last=("not", B)):
    """40 expressions, 3 variables and 4 event places, all of which happen; every part is alive."""
    chosen = ("if", A, ("or", B, C), ("default", C, ("not", B)))
    inner = call("f", ("if", A, ("or", B, C), ("default", C, last)))
    return call("f", chosen, call("g", chosen, call("h", chosen, inner)))


def surveyable(expr):
    return len(names_in(expr)) <= 3 and places_in(expr) <= 4


def replaced(expr, path, part):
    """The expression with another part in this place."""
    if path == ():
        return part
    parts = [replaced(old, path[1:], part) if at == path[0] else old for at, old in enumerate(below(expr))]
    match expr:
        case ("call", f, _):
            return call(f, *parts)
        case ("compare", _, links):
            return compare(parts[0], *[(sign, new) for (sign, _), new in zip(links, parts[1:])])
        case (word, *_):
            return (word, *parts)


class Case(unittest.TestCase):
    """A test case that can tell what a function leaves alone, and how long it takes."""

    def check_call(self, function, *args):
        """Call twice: the arguments stay, the answers are equal, and no list or dict is shared."""
        before = copy.deepcopy(args)
        start = time.perf_counter()
        answer = function(*args)
        self.assertLess(time.perf_counter() - start, SECONDS)
        kept = copy.deepcopy(answer)
        self.assertEqual(args, before)
        again = function(*args)
        self.assertEqual(again, kept)
        found = containers(answer) + containers(again)
        self.assertEqual(len(found), len({id(value) for value in found}))
        self.assertFalse({id(value) for value in containers(args)} & {id(value) for value in found})
        for value in containers(answer):
            value.clear()
        self.assertEqual(again, kept)
        self.assertEqual(function(*args), kept)
        self.assertEqual(args, before)
        return kept

    def check_error(self, error, function, *args, **attributes):
        """The call raises just this error, soon, with these attributes, and changes no argument."""
        before = copy.deepcopy(args)
        start = time.perf_counter()
        with self.assertRaises(error) as caught:
            function(*args)
        self.assertLess(time.perf_counter() - start, SECONDS)
        self.assertIs(type(caught.exception), error)
        for name, value in attributes.items():
            self.assertEqual(getattr(caught.exception, name), value, args)
            self.assertIs(type(getattr(caught.exception, name)), type(value))
        self.assertEqual(args, before)


def containers(value):
    """All lists and dicts in a value, each as often as it stands there."""
    found = [value] if isinstance(value, (list, dict)) else []
    if isinstance(value, dict):
        value = [*value.keys(), *value.values()]
    if isinstance(value, (list, tuple)):
        for item in value:
            found += containers(item)
    return found
