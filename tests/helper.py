"""What several tests need: samples, wrong values, and an evaluation of its own to compare with.

The evaluation here is written in another way than the program's (it goes on step by step, and
ends by an error), so that both are wrong in the same way only if both misread the document.
"""

import copy
import itertools
import random
import time
import unittest

KINDS = ("t", "f", "n")
ANSWERS = ("t", "f", "n", "x")
SIGNS = ("<", "<=", ">", ">=", "==", "!=")
TESTS = ("true", "false", "none", "given")
BARRED = (
    "and", "or", "not", "if", "else", "is", "none", "true", "false",
    "set", "give", "try", "except", "end", "then", "program", "keep", "self",
)

A, B, C, D, E = [("name", name) for name in "abcde"]
NONE, TRUE, FALSE = ("none",), ("true",), ("false",)
SECONDS = 4


def call(word, *operands):
    return ("call", word, operands)


def compare(first, *links):
    return ("compare", first, links)


def obj(*source):
    return ("object", source)


def nested(levels, base=A):
    """An expression with `levels` levels more than the base."""
    for _ in range(levels):
        base = ("not", base)
    return base


def joined(expressions):
    """Expressions joined by `and` in a balanced tree, which needs few levels."""
    expressions = list(expressions)
    while len(expressions) > 1:
        pairs = [expressions[at:at + 2] for at in range(0, len(expressions), 2)]
        expressions = [("and", *pair) if len(pair) == 2 else pair[0] for pair in pairs]
    return expressions[0]


class Stop(Exception):
    """The evaluation ends here, with an outcome."""


class Evaluation:
    """Evaluates expressions: `events` so far, and the paths that are `reached`."""

    def __init__(self, answers):
        self.answers = answers
        self.events, self.reached = [], []

    def seen(self, source, kind):
        return NONE if kind == "n" else ("object", source)

    def source(self, number):
        return ("event", number)

    def event(self, word, *values):
        number = len(self.events)
        self.events.append((word, values))
        if number >= len(self.answers):
            raise Stop(("wanting",))
        if self.answers[number] == "x":
            raise Stop(("failed", number))
        return self.seen(self.source(number), self.answers[number])

    def value(self, expr, path):
        """The value, and the path of the part that it comes from."""
        self.reached.append(path)

        def operand(part, number):
            return self.value(part, path + (number,))

        match expr:
            case ("name", x):
                return self.look(x), path
            case ("none" | "true" | "false",):
                return expr, path
            case ("not", a):
                return (FALSE if self.true(operand(a, 0)[0]) else TRUE), path
            case ("isnone", a):
                return (TRUE if operand(a, 0)[0] == NONE else FALSE), path
            case ("and", a, b):
                first = operand(a, 0)
                return operand(b, 1) if self.true(first[0]) else first
            case ("or", a, b):
                first = operand(a, 0)
                return first if self.true(first[0]) else operand(b, 1)
            case ("default", a, b):
                first = operand(a, 0)
                return operand(b, 1) if first[0] == NONE else first
            case ("if", c, a, b):
                return operand(a, 1) if self.true(operand(c, 0)[0]) else operand(b, 2)
            case ("call", f, parts):
                return self.event(f, *[operand(part, at)[0] for at, part in enumerate(parts)]), path
            case ("compare", first, links):
                left = operand(first, 0)[0]
                for at, (sign, part) in enumerate(links):
                    right = operand(part, at + 1)[0]
                    answer = self.event(sign, left, right)
                    left = right
                    if not self.true(answer):
                        break
                return answer, path


class Told(Evaluation):
    """The evaluation of one expression: `events`, `outcome`, the `reached` paths, and the `origin` of the value."""

    def __init__(self, expr, kinds, answers):
        super().__init__(answers)
        self.kinds, self.origin = kinds, None
        try:
            value, self.origin = self.value(expr, ())
            self.outcome = ("value", value)
        except Stop as stop:
            self.outcome = stop.args[0]

    def look(self, x):
        return self.seen(("name", x), self.kinds[x])

    def true(self, value):
        return true_value(value, self.kinds, self.answers)


def told(expr, kinds, answers):
    """What evaluate is to return."""
    run = Told(expr, kinds, answers)
    return (run.events, run.outcome)


def below(expr):
    """The operands by their numbers."""
    match expr:
        case ("name", _) | ("none" | "true" | "false",):
            return []
        case ("call", _, parts):
            return list(parts)
        case ("compare", first, links):
            return [first] + [part for _, part in links]
        case (_, *parts):
            return parts


def walk(expr, path=()):
    """All parts with their paths."""
    yield path, expr
    for at, part in enumerate(below(expr)):
        yield from walk(part, path + (at,))


def names_in(*exprs):
    return sorted({part[1] for expr in exprs for _, part in walk(expr) if part[0] == "name"})


def places_in(expr):
    return sum({"call": 1, "compare": len(part[-1])}.get(part[0], 0) for _, part in walk(expr))


def levels_in(expr):
    return 1 + max([levels_in(part) for part in below(expr)], default=0)


def worlds(names):
    """All kinds of the names, in order."""
    return [dict(zip(names, kinds)) for kinds in itertools.product(KINDS, repeat=len(names))]


def answer_lists(most):
    """All lists of at most so many answers: the shorter ones first, then in order."""
    return [list(answers) for many in range(most + 1) for answers in itertools.product(ANSWERS, repeat=many)]


def runs_of(expr, kinds, answers=()):
    """All complete runs, in order."""
    if told(expr, kinds, list(answers))[1] != ("wanting",):
        return [list(answers)]
    return [run for answer in ANSWERS for run in runs_of(expr, kinds, (*answers, answer))]


def true_value(value, kinds, answers):
    if value[0] != "object":
        return value == TRUE
    word, at = value[1]
    return (kinds[at] if word == "name" else answers[at]) == "t"


def least_parting(one, other, same):
    """The first input, in order, for which the same outcome is not told: by going through all."""
    most = max(places_in(one), places_in(other))
    for kinds in worlds(names_in(one, other)):
        for answers in answer_lists(most):
            if not same(told(one, kinds, answers), told(other, kinds, answers), kinds, answers):
                return (kinds, answers)
    return None


def equal(one, other, kinds, answers):
    """Whether two tuples are the same in the sense of parting."""
    return one == other


def equal_truth(one, other, kinds, answers):
    """Whether two tuples are the same in the sense of parting_test."""
    if one[0] != other[0] or not one[1][0] == other[1][0] == "value":
        return one == other
    return true_value(one[1][1], kinds, answers) == true_value(other[1][1], kinds, answers)


def rows_in(block):
    """How many rows a block has, those within rows included."""
    return sum(1 + sum(rows_in(part) for part in row if type(part) is tuple and is_block(part)) for row in block)


def is_block(part):
    """Whether a part of a row is a block: expressions begin with a word."""
    return part == () or type(part[0]) is tuple


class ProgramCall(Evaluation):
    """One call of a program: `events`, `outcome`, `held`, and in `begun` the rows with what names held at them.

    `kinds` are the kinds of all objects by their sources; those of this call are added.
    """

    def __init__(self, program, number, holds, kinds, call):
        super().__init__(call[1])
        self.number, self.holds, self.kinds, self.begun = number, dict(holds), kinds, []
        for name, kind in zip(program[0], call[0]):
            self.kinds[(number, ("name", name))] = kind
            self.holds[name] = self.seen((number, ("name", name)), kind)
        try:
            self.block(program[2], 0)
            self.outcome = ("value", NONE)
        except Stop as stop:
            self.outcome = stop.args[0]
        self.held = tuple(self.holds[name] for name, _ in program[1])
        self.complete = self.outcome != ("wanting",) and len(self.events) == len(self.answers)

    def source(self, number):
        return (self.number, ("event", number))

    def event(self, word, *values):
        number = len(self.events)
        if number < len(self.answers):
            self.kinds[self.source(number)] = self.answers[number]
        return super().event(word, *values)

    def look(self, x):
        return self.holds[x]

    def true(self, value):
        return value == TRUE or (value[0] == "object" and self.kinds[value[1]] == "t")

    def block(self, block, number):
        for row in block:
            self.begun.append((number, dict(self.holds)))
            self.row(row, number)
            number += rows_in((row,))

    def row(self, row, number):
        match row:
            case ("set", x, e):
                self.holds[x] = self.value(e, ())[0]
            case ("give", e):
                raise Stop(("value", self.value(e, ())[0]))
            case ("if", e, yes, no):
                if self.true(self.value(e, ())[0]):
                    self.block(yes, number + 1)
                else:
                    self.block(no, number + 1 + rows_in(yes))
            case ("try", body, handler):
                try:
                    self.block(body, number + 1)
                except Stop as stop:
                    if stop.args[0][0] != "failed":
                        raise
                    self.block(handler, number + 1 + rows_in(body))


class Played:
    """The calls of a history, up to one that is wanting; it may go on from kept names that hold something."""

    def __init__(self, program, history, holds=None, kinds=None):
        self.program, self.calls, self.kinds = program, [], dict(kinds or {})
        self.holds = holds or {name: (constant,) for name, constant in program[1]}
        for call in history:
            self.go_on(call)
            if self.calls[-1].outcome == ("wanting",):
                break

    def go_on(self, call):
        found = ProgramCall(self.program, len(self.calls), self.holds, self.kinds, call)
        self.calls.append(found)
        self.holds = dict(zip([name for name, _ in self.program[1]], found.held))
        return found

    def told(self):
        """What play is to return."""
        return [(call.events, call.outcome, call.held) for call in self.calls]


def by_place(program, source):
    """A source with the place of a parameter for its name."""
    number, (word, at) = source
    return (number, (word, program[0].index(at) if word == "name" else at))


def told_by_places(program, call):
    """The events and the outcome of a call, with its parameters told by their places."""
    def value(found):
        return ("object", by_place(program, found[1])) if found[0] == "object" else found

    events = [(word, tuple(value(operand) for operand in values)) for word, values in call.events]
    outcome = ("value", value(call.outcome[1])) if call.outcome[0] == "value" else call.outcome
    return (events, outcome)


def lively_program(source, parameters, kept, places):
    """A program that mostly keeps objects for some calls, and tells them."""
    names = [("name", name) for name, _ in kept]
    leaves = [*names * 2, *[("name", name) for name in parameters] * 3, NONE, TRUE, FALSE]
    left = [places]

    def asked():
        if left[0] == 0:
            return source.choice(leaves)
        left[0] -= 1
        if source.random() < 0.2:
            return compare(source.choice(leaves), (source.choice(SIGNS), source.choice(leaves)))
        return call(source.choice("fg"), *source.sample(leaves, source.randint(0, 2)))

    def expression():
        first, second = source.choice(leaves + [None] * 6) or asked(), source.choice(leaves)
        word = source.choice(["", "", "", "default", "or", "and", "not", "isnone", "if"])
        if word == "":
            return first
        if word in ("not", "isnone"):
            return (word, first)
        if word == "if":
            return (word, first, second, source.choice(leaves))
        return (word, *source.sample([first, second], 2))

    def sets(many):
        return tuple(("set", source.choice(kept)[0], expression()) for _ in range(many))

    rows = list(sets(source.randint(0, 1)))
    for _ in range(source.randint(1, 4)):
        word = source.choice(["set", "set", "set", "if", "try"])
        if word == "set":
            rows += sets(1)
        elif word == "if":
            rows.append((word, expression(), sets(source.randint(0, 2)), sets(source.randint(0, 1))))
        else:
            rows.append((word, sets(source.randint(1, 2)), sets(source.randint(0, 1))))
    value = source.choice([*names, call("h", *names[:3])] if left[0] else names)
    return (tuple(parameters), tuple(kept), (*rows, ("give", value)))


def keeping_program(source, parameters, kept, places):
    """A program that mostly keeps objects over several calls, hands them on, and shows some of them."""
    names, left = [("name", name) for name, _ in kept], [places]

    def new():
        if left[0] > 0 and source.random() < 0.6:
            left[0] -= 1
            return call(source.choice("fg"), *source.sample(names, source.choice([0, 0, 1]) * bool(names)))
        return source.choice([*[("name", name) for name in parameters] * 3, *names, NONE])

    def test():
        return source.choice([*[("name", name) for name in parameters] * 2, *names,
            ("isnone", source.choice(names))])

    def row():
        x, y = source.choice(names), source.choice(names)
        return source.choice([
            lambda: ("set", x[1], ("default", x, new())), lambda: ("set", x[1], ("if", test(), x, new())),
            lambda: ("set", x[1], ("or", y, new())), lambda: ("set", x[1], y), lambda: ("set", x[1], new()),
            lambda: ("if", test(), (("set", x[1], new()),), (("set", y[1], x),)),
            lambda: ("if", test(), (("give", x),), ()), lambda: ("try", (("set", x[1], new()),), (("set", x[1], y),)),
        ])()

    rows = [row() for _ in range(source.randint(2, 5))]
    shown = source.sample(names, min(len(names), source.randint(1, 2)))
    rows.append(("give", source.choice([shown[0], ("if", test(), *(shown * 2)[:2]),
        call("h", *shown) if left[0] else shown[0]])))
    return (tuple(parameters), tuple(kept), tuple(rows))


def bad_programs():
    """Values that are no programs, by each way in which they may fail to be one."""
    give = ("give", A)
    bad = [*no_values(), (), [], {}, ((), ()), ((), (), (), ()), [(), (), ()], ((), (), []), ((), [], ()), ([], (), ())]
    bad += [((), (), give), ((), (), None), ((), (), "give"), (("a",), (), (give,), ()), (("a",), (), [give])]
    # Parameters and kept names.
    names = ["", "A", "a1", "a b", "abcdefghi", *BARRED, None, True, 0, ("a",), ["a"], {"a": 1}]
    bad += [((name,), (), ()) for name in names] + [((), ((name, "none"),), ()) for name in names]
    bad += [("a", (), ()), ("ab", (), ()), (None, (), ()), ({"a": 1}, (), ()), (("a", "b", "c"), (), ()),
        (("a", "a"), (), ())]
    constants = ["", "None", "t", "f", "n", "nil", " none", None, True, False, 0, ("none",), ["none"]]
    bad += [((), (("a", constant),), ()) for constant in constants]
    bad += [((), value, ()) for value in ["a", None, ("a",), ("a", "none"), (("a",),), (("a", "none", "none"),),
        (["a", "none"],)]]
    bad += [((), [("a", "none")], ()), ((), {"a": "none"}, ()), ((), tuple((name, "none") for name in "abcde"), ())]
    bad += [((), (("a", "none"), ("a", "none")), ()), ((), (("a", "none"), ("b", "true"), ("a", "false")), ())]
    bad += [(("a",), (("a", "none"),), ()), (("b", "a"), (("c", "none"), ("a", "none")), ())]

    def of(*rows):
        return (("p",), (("a", "none"), ("b", "true")), rows)

    # Rows.
    rows = [*no_values(), (), [], ["give", A], ("give",), ("give", A, A), ("gives", A), ("set", "a"), ("set", A), A,
        NONE]
    rows += [("set", "a", A, A), ("set", ["a"], A), ("set", None, A), ("if", A), ("if", A, ()), ("if", A, (), (), ())]
    rows += [("try", ()), ("try", (), (), ()), ("try", A, ()), ("if", (), A, ()), ("while", A, ()), ("not", A)]
    rows += [("", A), (None, A), (True, A), (("give",), A), (["give"], A), ("except", ()), ("else", A, (), ())]
    bad += [of(row) for row in rows] + [of(("give", A), row) for row in rows]
    bad += [of(("if", A, (row,), ())) for row in rows] + [of(("if", A, (), (row,))) for row in rows]
    bad += [of(("try", (row,), ())) for row in rows] + [of(("try", (), (row,))) for row in rows]
    # Blocks.
    blocks = [None, True, 0, "", "a", [], {}, [give], give, {"a": 1}, [()], deep(list, 40)]
    bad += [of(("if", A, block, ())) for block in blocks] + [of(("if", A, (), block)) for block in blocks]
    bad += [of(("try", block, ())) for block in blocks] + [of(("try", (), block)) for block in blocks]
    # Expressions.
    for wrong in bad_expressions()[::3]:
        bad += [of(("set", "a", wrong)), of(("give", wrong)), of(("if", wrong, (), ())),
            of(("try", (("give", wrong),), ()))]
    # Names that are not there, or are parameters.
    bad += [of(("give", C)), of(("set", "a", call("f", C))), of(("if", ("not", C), (), ())),
        of(("try", (), (("give", C),)))]
    bad += [of(("set", "c", A)), of(("set", "p", A)), of(("set", "f", call("f"))),
        of(("if", A, (("set", "p", B),), ()))]
    bad += [((), (), (give,)), (("b",), (), (give,)), ((), (("b", "none"),), (give,)), (("a",), (), (("set", "a", A),))]
    return bad + [of(*rows) for rows in too_large_rows()]


def nested_rows(depth, row=None):
    """Rows in blocks nested so deep."""
    if depth == 1:
        return () if row is None else (row,)
    return (("if", A, nested_rows(depth - 1, row), ()),)


def too_large_rows():
    """Rows just beyond each bound, with the names a, b and p."""
    sets = (("set", "a", A),) * 30
    rows = [sets + sets[:1], (("if", A, sets, ()),), (("try", sets[:14], sets[:16]),),
        sets[:20] + (("try", sets[:9], sets[:1]),)]
    rows += [(("if", A, sets[:15], sets[:15]),), sets * 1000, (("try", (), sets * 500),)]
    rows += [nested_rows(7), nested_rows(7, ("give", A)), nested_rows(8), nested_rows(60), nested_rows(121)]
    rows += [(("if", A, (), nested_rows(6)),), (("try", nested_rows(6), ()),), (("try", (), nested_rows(6)),)]
    rows += [nested_rows(6, ("if", A, (), ())), nested_rows(6, ("try", (), ())),
        nested_rows(5, ("if", A, (), ((("try", (), ())),)))]
    f = ("set", "a", call("f"))
    rows += [(f,) * 7, (("give", most_calls()), f), (("if", call("f"), (f, f, f), (f, f, f)),),
        (("try", (f,) * 4, (f,) * 3),)]
    rows += [(("set", "a", compare(A, ("<", A), ("<", A), ("<", A))), ("give", compare(A, *[("<", B)] * 4)))]
    return rows


def most_calls():
    return joined([call("f"), call("g"), call("h"), call("f"), call("g"), call("h")])


def right_programs():
    """Programs with each row, and at the bounds."""
    right = [((), (), ()), (("p",), (), ()), (("p", "q"), (), (("give", ("name", "q")),)), ((), (("c", "none"),), ())]
    right += [((), tuple((name, constant) for name, constant in zip("abcd", ("none", "true", "false", "none"))), ())]
    right += [(("abcdefgh",), (("f", "none"),), (("set", "f", call("f", ("name", "abcdefgh"))),))]

    def of(*rows):
        return (("p",), (("a", "none"), ("b", "true")), rows)

    sets = (("set", "a", A),) * 30
    f = ("set", "a", call("f"))
    right += [of(*rows) for rows in [
        sets, (("if", A, sets[:29], ()),), (("try", sets[:14], sets[:15]),), sets[:20] + (("try", sets[:8], sets[:1]),),
        nested_rows(6), nested_rows(6, ("give", A)), (("if", A, (), nested_rows(5)),), (("try", nested_rows(5), ()),),
        (("try", (), nested_rows(5)),), (f,) * 6, (("give", most_calls()),), (("if", call("f"), (f, f, f), (f, f)),),
        (("try", (f,) * 3, (f,) * 3),), (("give", compare(A, *[("<", ("name", "p"))] * 4)), f, f),
        (("set", "a", most_parts()), ("set", "b", most_levels()), ("give", NONE)),
        (("try", (("if", call("f"), (("give", A),), (("set", "b", call("g", B)),)),),
            (("try", (f,), (("give", TRUE),)),)),),
    ]]
    return right


def histories(programs, most):
    """All histories of up to so many calls in order; all calls ahead of the last one are complete for all programs."""
    calls = all_calls(programs[0], max(program_places(program) for program in programs))
    level = [[]]
    for many in range(most):
        longer = []
        for history in level:
            for call in calls:
                yield [*history, call]
                if many + 1 < most and all(Played(program, [*history, call]).calls[-1].complete
                    for program in programs):
                    longer.append([*history, call])
        level = longer


def state_behind(*played):
    """The state of the kept names of programs that were played."""
    numbers, state = {}, []
    for one in played:
        for value in one.holds.values():
            if value[0] == "object":
                number = numbers.setdefault(by_place(one.program, value[1]), len(numbers))
                state.append((number, one.kinds[value[1]]))
            else:
                state.append(value[0])
    return tuple(state)


def played_from(program, entries, call):
    """A call of a program whose kept names hold what a state tells."""
    holds, kinds = {}, {}
    for (name, _), entry in zip(program[1], entries):
        if isinstance(entry, tuple):
            holds[name] = ("object", (-1, ("event", entry[0])))
            kinds[-1, ("event", entry[0])] = entry[1]
        else:
            holds[name] = (entry,)
    return Played(program, [call], holds, kinds)


def calls_from(programs, state):
    """All calls from a state of programs in order: each with what is played of it, one for each program."""
    for call in all_calls(programs[0], max(program_places(program) for program in programs)):
        played, at = [], 0
        for program in programs:
            played.append(played_from(program, state[at:at + len(program[1])], call))
            at += len(program[1])
        yield call, played


def states_that_come(programs):
    """All states that come behind complete calls, in order, each with the least history that leads to it."""
    begin = tuple(constant for program in programs for _, constant in program[1])
    found, order = {begin: []}, [begin]
    for state in order:
        for call, played in calls_from(programs, state):
            behind = state_behind(*played)
            if all(one.calls[-1].complete for one in played) and behind not in found:
                found[behind] = [*found[state], call]
                order.append(behind)
    return found


def some_history(source, program, many):
    """A history of so many complete calls, made by a source of random numbers."""
    history, played = [], Played(program, [])
    for number in range(many):
        kinds, answers = tuple(source.choice(KINDS) for _ in program[0]), []
        while True:
            found = ProgramCall(program, number, played.holds, dict(played.kinds), (kinds, answers))
            if found.complete:
                break
            answers.append(source.choice("ttffnx"))
        history.append((kinds, answers))
        played.go_on(history[-1])
    return history


def further_calls(program, history, most, places=None):
    """All lists of up to so many further calls in order, each with what is played of the last one.

    All calls ahead of the last one are complete; each one has at most so many answers as there are places.
    """
    played = Played(program, history)
    level = [([], played.holds, played.kinds)]
    for many in range(most):
        longer = []
        for calls, holds, kinds in level:
            for call in all_calls(program, places):
                found = ProgramCall(program, len(history) + many, holds, dict(kinds), call)
                yield [*calls, call], found
                if found.complete:
                    names = [name for name, _ in program[1]]
                    longer.append(([*calls, call], dict(zip(names, found.held)), found.kinds))
        level = longer


def shows(played, source):
    """Whether an object comes out of a call that is played, or is an operand of an event in it."""
    shown = [value for _, values in played.events for value in values]
    shown += [played.outcome[1]] if played.outcome[0] == "value" else []
    return ("object", source) in shown


def ever_shown(program, state, number):
    """Whether further calls show an object of a state, by a look at all states that come behind it."""
    seen, waiting = {(state, number)}, [(state, number)]
    while waiting:
        state, number = waiting.pop()
        source = (-1, ("event", number))
        for _, (played,) in calls_from([program], state):
            call = played.calls[-1]
            if shows(call, source):
                return True
            if call.complete and ("object", source) in call.held:
                behind = state_behind(played)
                key = (behind, behind[call.held.index(("object", source))][0])
                if key not in seen:
                    seen.add(key)
                    waiting.append(key)
    return False


def needed_in(program, state):
    """The numbers of the objects of a state that are needed."""
    numbers = sorted({entry[0] for entry in state if isinstance(entry, tuple)})
    return [number for number in numbers if ever_shown(program, state, number)]


def objects_behind(program, history):
    """The sources of the objects that kept names hold, in the order of their numbers in the state."""
    return list(dict.fromkeys(value[1] for value in Played(program, history).holds.values() if value[0] == "object"))


def too_many_places():
    """Programs that are not small, for each number of parameters; and programs at the bound."""
    def of(parameters, places):
        rows = tuple(("if", call("f"), (), ()) for _ in range(places))
        return (tuple("pq"[:parameters]), (("c", "none"),), (*rows, ("give", C)))

    links = ((), (("c", "none"),), (("give", compare(C, *[("<", C)] * 4)),))
    beyond = [of(*many) for many in [(0, 4), (1, 3), (2, 2), (0, 6), (2, 6)]] + [links]
    return beyond, [of(*many) for many in [(0, 3), (1, 2), (2, 1), (2, 0)]]


def bad_histories(kinds):
    """Values that are no histories for a program with so many parameters."""
    good = (kinds, [])
    bad = [value for value in no_values() if value != []]
    bad += [(), (good,), {}, {0: good}, good, [[*good]], [(kinds,)], [(kinds, [], [])], [kinds], [([], kinds)],
        [None], [[]]]
    bad += [[(list(kinds), [])], [("t" * len(kinds), [])], [(kinds + ("t",), [])], [(None, [])], [({}, [])],
        [({"p": "t"}, [])]]
    if kinds:
        bad += [[(kinds[1:], [])], [((), [])]]
        wrong = [None, True, 0, "x", "T", "", "tf", "true", ("t",), ["t"], {}]
        bad += [[((kind, *kinds[1:]), [])] for kind in wrong] + [[((*kinds[:-1], kind), [])] for kind in wrong]
    bad += [[(kinds, answers)] for answers in [None, (), ("t",), "t", "", {}, {"t": 1}, 0, True]]
    bad += [[(kinds, [answer])] for answer in [None, True, 0, "q", "T", "", "tt", ("t",), ["t"], {}]]
    bad += [[(kinds, ["t", "t", "t", "q"])], [(kinds, ["t", None])]]
    return bad


def large_variable(name):
    """40 expressions that are alike to a variable."""
    some = joined([("not", ("name", x)) for x in "abcdab"])
    return ("if", some, ("name", name), ("if", ("isnone", some), ("name", name), ("name", name)))


def large_programs():
    """Small programs at the bounds: four kept names, three event places, 30 rows, and objects that go around."""
    kept = tuple((name, "none") for name in "abcd")
    rows = tuple(("set", name, large_variable(name)) for name in "abcd" * 7)
    shift = (("set", "d", C), ("set", "c", B), ("set", "b", A), ("try", (("set", "a", call("g")),),
        (("set", "a", FALSE),)))
    swap = (("set", "d", A), ("set", "a", B), ("set", "b", D))
    turn = (("set", "d", A), ("set", "a", B), ("set", "b", C), ("set", "c", D))
    programs = []
    for asked in (call("h"), call("h", A, B, C)):
        inner = ("if", call("f"), shift, (("if", asked, (("set", "d", A), ("set", "a", TRUE)), swap),))
        programs.append(((), kept, (("try", (inner,), turn), *rows[:11], ("give", D))))
    tries = tuple(("try", (("set", name, call(word)),), ()) for name, word in zip("abc", "fgh"))
    programs.append(((), kept, (*tries, *rows[:24])))
    looks = tuple(("set", name, ("if", ("name", name), ("name", "p"), call("f") if at == 20 else ("name", "q")))
                  for at, name in enumerate("abcd" * 7 + "a"))
    programs.append((("p", "q"), kept, (*looks, ("give", B))))
    return programs


def all_calls(program, most=None):
    """All calls with at most so many answers, in order."""
    most = program_places(program) if most is None else most
    return [(kinds, answers) for kinds in itertools.product(KINDS, repeat=len(program[0]))
            for answers in answer_lists(most)]


def expressions_in(block):
    """All expressions of the rows of a block."""
    found = []
    for row in block:
        match row:
            case ("set", _, e) | ("give", e):
                found += [e]
            case ("if", e, yes, no):
                found += [e, *expressions_in(yes), *expressions_in(no)]
            case ("try", body, handler):
                found += [*expressions_in(body), *expressions_in(handler)]
    return found


def program_places(program):
    return sum(places_in(expr) for expr in expressions_in(program[2]))


def some_program(source, parameters=(), kept=(("c", "none"),), places=2, rows=5, levels=3):
    """A program made by a source of random numbers, with at most so many event places and rows."""
    names = [*parameters, *[name for name, _ in kept]]
    left = [places, rows]

    def expression():
        expr = some_expression(source, source.randint(1, levels), names or ["none"], min(left[0], 2))
        if not names:
            for path, part in list(walk(expr)):
                expr = replaced(expr, path, NONE) if part[0] == "name" else expr
        left[0] -= places_in(expr)
        return expr

    def block(depth):
        found = []
        for _ in range(source.randint(0 if depth > 1 else 1, 4 if depth == 1 else 2)):
            if left[1] > 0:
                left[1] -= 1
                found.append(row(depth))
        return tuple(found)

    def row(depth):
        words = ["set"] * 4 * bool(kept) + ["give"] * (1 + (depth > 1)) + ["if", "if", "try", "try"] * (depth < 4)
        word = source.choice(words)
        if word == "set":
            return (word, source.choice(kept)[0], expression())
        if word == "give":
            return (word, expression())
        if word == "if":
            return (word, expression(), block(depth + 1), block(depth + 1))
        return (word, block(depth + 1), block(depth + 1))

    return (tuple(parameters), tuple(kept), block(1))


def answer(number):
    """The value of an answer."""
    return obj("event", number)


def name(x):
    """The value of a variable."""
    return obj("name", x)


def next_events(number, variables=("a",), most=2):
    """All events that may stand at this place, over a few words and values."""
    values = [NONE, *[name(x) for x in variables], *[answer(at) for at in range(number)]]
    found = [("f", operands) for many in range(most + 1) for operands in itertools.product(values, repeat=many)]
    return found + [("<", operands) for operands in itertools.product(values, repeat=2)]


def bad_events():
    """Values that are no lists of events, by each way in which they may fail to be one."""
    f, g = ("f", ()), ("g", ())
    bad = [value for value in no_values() if value != []]
    bad += [(), (f,), {}, {0: f}, "f", f, [f] * 7, [None], [[]], [()], [("f",)], ["f"], [["f", ()]]]
    bad += [[("f", (), ())], [("f", [])], [("f", None)], [("f", "a")], [("f", {})], [("f", NONE)], [((), "f")]]
    words = ["", "F", "f1", "a b", "abcdefghi", "=", "<>", "is", "??", *BARRED]
    bad += [[(word, ())] for word in words] + [[(word, (NONE, NONE))] for word in words]
    bad += [[(word, ())] for word in [None, True, 0, ("f",), ["f"], {}, b"f"]]
    bad += [[("f", (NONE,) * 4)], [("f", (NONE,) * 2000)]]
    bad += [[(sign, (NONE,) * many)] for sign in SIGNS for many in (0, 1, 3)]
    # Values that are none.
    values = [*no_values(), (), ("name", "a"), ("event", 0), ("object",), ("object", None), ("object", ())]
    values += [["none"], ("none", "none"), ("object", ["name", "a"]), ("object", ("name", "a"), NONE), ("Object", A)]
    values += [("object", ("name",)), ("object", ("name", "a", "b")), ("object", ("name", "A")),
        ("object", ("name", "if"))]
    values += [("object", ("name", 0)), ("object", ("event",)), ("object", ("event", "0")), ("object", ("event", None))]
    values += [("object", ("event", True)), ("object", ("event", False)), ("object", ("event", -1)), ("value", NONE)]
    values += [("object", ("event", 10 ** 29)), ("object", ("names", "a")), ("object", (0, ("event", 0))),
        ("objects", A)]
    bad += [[f, ("g", (value,))] for value in values] + [[f, ("<", (NONE, value))] for value in values]
    # Sources of the event itself, or of a later one.
    bad += [[("f", (answer(0),))], [f, ("g", (answer(1),))], [f, ("g", (answer(2),)), g]]
    bad += [[f, g, ("<", (answer(2), NONE))]]
    # A fifth variable.
    five = [("f", (name("a"), name("b"), name("c"))), ("g", (name("d"), name("e")))]
    bad += [five, [("<", (name("e"), name("a"))), f, ("g", (name("b"), name("c"), name("d")))]]
    return bad


class CodeRun:
    """One run of flat code: `events`, `outcome`, and how many `steps` are carried out."""

    TAKES = {"compare": 2, "not": 1, "isnone": 1}

    def __init__(self, code, kinds, answers):
        self.kinds, self.answers, self.events, self.steps = kinds, answers, [], 0
        stack, at = [], 0
        while at < len(code):
            self.steps += 1
            at = self.step(code[at], stack, at)
            if type(at) is tuple:
                self.outcome = at
                return
        (value,) = stack
        self.outcome = ("value", value)

    def holds(self, test, value):
        return {
            "true": true_value(value, self.kinds, self.answers), "none": value == NONE,
            "false": not true_value(value, self.kinds, self.answers), "given": value != NONE,
        }[test]

    def step(self, instruction, stack, at):
        """The number of the next instruction, or the outcome."""
        match instruction:
            case ("name", x):
                stack.append(NONE if self.kinds[x] == "n" else obj("name", x))
            case ("none" | "true" | "false",):
                stack.append(instruction)
            case ("call", f, many):
                return self.event(f, stack, many) or at + 1
            case ("compare", sign):
                return self.event(sign, stack, 2) or at + 1
            case ("not",):
                stack.append(FALSE if self.holds("true", stack.pop()) else TRUE)
            case ("isnone",):
                stack.append(TRUE if stack.pop() == NONE else FALSE)
            case ("copy",):
                stack += stack[-1:]
            case ("pop",):
                stack.pop()
            case ("swap",):
                stack[-2:] = [stack[-1], stack[-2]]
            case ("under",):
                stack[-3:] = [stack[-1], stack[-3], stack[-2]]
            case ("jump", to):
                return to
            case ("jump_pop", test, to):
                return to if self.holds(test, stack.pop()) else at + 1
            case ("jump_keep", test, to):
                if self.holds(test, stack[-1]):
                    return to
                stack.pop()
        return at + 1

    def event(self, word, stack, many):
        number = len(self.events)
        self.events.append((word, tuple(stack[len(stack) - many:])))
        stack[len(stack) - many:] = []
        if number >= len(self.answers):
            return ("wanting",)
        if self.answers[number] == "x":
            return ("failed", number)
        stack.append(NONE if self.answers[number] == "n" else obj("event", number))
        return None


def names_in_code(code):
    return sorted({instruction[1] for instruction in code if instruction[0] == "name"})


def events_in_code(code):
    return sum(instruction[0] in ("call", "compare") for instruction in code)


def ways(code):
    """All pairs of an instruction that can be come to and a depth, by going all ways; None if values are missing."""
    sizes = {"copy": (1, 2), "pop": (1, 0), "swap": (2, 2), "under": (3, 3), "not": (1, 1), "isnone": (1, 1)}
    seen, waiting = set(), [(0, 0)]
    while waiting:
        at, depth = waiting.pop()
        if (at, depth) in seen:
            continue
        seen.add((at, depth))
        if at == len(code):
            continue
        match code[at]:
            case ("jump", to):
                waiting.append((to, depth))
                continue
            case ("jump_pop", _, to):
                takes, following = 1, [(to, depth - 1), (at + 1, depth - 1)]
            case ("jump_keep", _, to):
                takes, following = 1, [(to, depth), (at + 1, depth - 1)]
            case ("call", _, takes):
                following = [(at + 1, depth - takes + 1)]
            case ("compare", _):
                takes, following = 2, [(at + 1, depth - 1)]
            case (word, *_):
                takes, gives = sizes.get(word, (0, 1))
                following = [(at + 1, depth - takes + gives)]
        if depth < takes:
            return None
        waiting += following
    return seen


def depths_in(code):
    """The depths of all instructions and the end, or None if the ways in this list make no code."""
    seen = ways(code)
    if seen is None or len({at for at, _ in seen}) < len(seen) or (len(code), 1) not in seen:
        return None
    return [dict(seen).get(at) for at in range(len(code) + 1)]


SETTLED = {"true": TESTS, "none": TESTS, "false": ("true", "false"), "given": ("none", "given")}


def idle_jumps(code):
    """The numbers of the idle jumps."""
    found = []
    for at, instruction in enumerate(code):
        if not instruction[0].startswith("jump"):
            continue
        to = instruction[-1]
        target = code[to] if to < len(code) else ("end",)
        idle = instruction == ("jump", at + 1) or target[0] == "jump"
        if instruction[0] == "jump_keep":
            idle |= target[0] == "pop"
            idle |= target[0] in ("jump_pop", "jump_keep") and target[1] in SETTLED[instruction[1]]
        if idle:
            found.append(at)
    return found


EXAMPLE_CODE = [("name", "a"), ("jump_keep", "false", 3), ("call", "f", 0), ("jump_keep", "true", 5), ("none",)]


def bad_codes():
    """Values that are no code, by each way in which they may fail to be it."""
    a, pop = ("name", "a"), ("pop",)
    bad = [*no_values(), (), [], {}, (a,), {0: a}, a, "none", [[*a]], [None], [a, None], [a, []], [()], [a, ()]]
    # Wrong words and lengths.
    words = ["names", "NAME", "", " none", "jumps", "jump pop", "jump_", "and", "or", "default", "if", "dup", "object"]
    bad += [[(word,)] for word in words] + [[a, (word,)] for word in words]
    bad += [[a, (word,)] for word in [None, True, 0, ("pop",), ["pop"], {}]]
    shapes = {"none": 1, "true": 1, "false": 1, "not": 1, "isnone": 1, "copy": 1, "pop": 1, "swap": 1, "under": 1}
    bad += [[a, a, a, (word, "a"), pop, pop, pop] for word in shapes] + [[a, (word, 1)] for word in shapes]
    bad += [[("name",)], [("name", "a", "b")], [a, ("jump",)], [a, ("jump", 2, 2)], [a, ("jump_pop", "true"), a]]
    bad += [[a, ("jump_pop", 2), a], [a, ("jump_pop", "true", 2, 2), a], [a, ("jump_keep", 3), a], [("call", "f")]]
    bad += [[("call", "f", 0, 0)], [("call", "f", ())], [a, a, ("compare",)], [a, a, ("compare", "<", 2)], [("call",)]]
    # Wrong names, signs, numbers and tests.
    names = ["", "A", "aB", "a1", "a b", " a", "abcdefghi", *BARRED, None, True, 0, ("a",), ["a"], {"a": 1}]
    bad += [[("name", name)] for name in names] + [[("call", name, 0)] for name in names]
    bad += [[a, a, ("compare", sign)] for sign in ["", "=", "<>", "is", "??", "and", None, 0, ("<",), ["<"]]]
    numbers = [None, True, False, "0", "1", (1,), [1], -1, 10 ** 29]
    bad += [[a, ("call", "f", many)] for many in [*numbers, 2, 4]] + [[a] * 4 + [("call", "f", 4)]]
    tests = ["", "True", "given ", "not", "is none", None, True, False, 0, ("true",), ["true"], "t"]
    bad += [[a, ("jump_pop", test, 2), a] for test in tests] + [[a, ("jump_keep", test, 3), a] for test in tests]
    # Targets that are not ahead, or beyond the end.
    targets = [*numbers, 0, 1, 4, 5, 120]
    bad += [[a, ("jump", to), ("not",)] for to in targets] + [[a, ("jump_keep", "true", to), a] for to in targets]
    bad += [[a, ("jump_pop", "none", to), a] for to in targets] + [[a, ("jump", False)], [("jump", True), a]]
    # Also where they cannot be come to.
    dead = [("name", "A"), ("names",), ("call", "f", 4), ("compare", "="), ("jump", 2), ("jump", 9), ("jump", True)]
    dead += [("jump_pop", "yes", 3), ("jump_keep", "true", 1), ("pop", 1), None, ["pop"]]
    bad += [[a, ("jump", 3), instruction] for instruction in dead]
    # Unequal depths.
    bad += [[a, ("jump_keep", "true", 2)], [a, ("jump_keep", "true", 2), a], [a, a, ("jump_pop", "true", 4), a]]
    bad += [[a, ("jump_pop", "true", 3), a, a], [a, a, ("jump_keep", "true", 4), pop],
        [a, ("jump_keep", "none", 3), ("jump", 3)]]
    # Too few values.
    bad += [[word] for word in [pop, ("not",), ("isnone",), ("copy",), ("swap",), ("under",), ("compare", "<")]]
    bad += [[a, ("swap",)], [a, ("compare", "<")], [a, a, ("under",), pop], [("call", "f", 1)], [a, ("call", "f", 2)]]
    bad += [[a, a, ("call", "f", 3)], [("jump_pop", "true", 2), a], [("jump_keep", "true", 2), a], [pop, a]]
    bad += [[a, pop, pop, a], [a, pop, ("jump", 4), a], [a, ("jump_pop", "true", 3), ("not",), a]]
    # The end not come to with one value.
    bad += [[("jump", 1)], [a, a], [a, pop], [a, ("copy",)], [a, ("jump", 2), a, a], [a, a, ("jump", 4), pop],
        [a, a, a, pop]]
    bad += [[("jump", 2), a], [("jump", 3), a, a], [a, pop, ("jump", 4), a]]
    # Just beyond each bound, also where it cannot be come to.
    bad += [[a] + [("not",)] * 120, [a] * 121, [a] + [("jump", at + 1) for at in range(1, 121)]]
    calls = [("call", "f", 0), *[("call", "g", 1)] * 6]
    bad += [calls, [a, *[("copy",), ("compare", "<")] * 7], [*calls[:6], ("copy",), ("compare", "<")]]
    bad += [[*calls[:6], ("jump", 8), ("call", "f", 0)], [a, ("jump", 16), *[("copy",), ("compare", "<")] * 7]]
    five = [("name", name) for name in "abcde"]
    bad += [[*five, pop, pop, pop, pop], [*five[:4], pop, pop, pop, ("jump", 9), five[4]], [a, ("jump", 6), *five[1:]]]
    return bad


def right_codes():
    """Code with each instruction, and at the bounds."""
    a, b, none, pop = ("name", "a"), ("name", "b"), ("none",), ("pop",)
    right = [EXAMPLE_CODE, [a], [none], [("true",)], [("false",)], [("call", "f", 0)], [a, ("not",)], [a, ("isnone",)]]
    right += [[a, b, ("compare", sign)] for sign in SIGNS] + [[a, ("call", "f", 1)], [a, b, none, ("call", "f", 3)]]
    right += [[a, b, pop], [a, b, ("swap",), pop], [a, b, none, ("under",), pop, pop],
        [a, ("copy",), ("compare", "==")]]
    right += [[a, b, none, ("under",), ("call", "f", 3)], [a, b, ("swap",), ("call", "f", 2)], [b, a, ("call", "f", 2)]]
    for test in TESTS:
        right += [[a, ("jump_pop", test, 4), b, ("jump", 5), none], [a, ("jump_keep", test, 3), b],
            [a, b, ("jump_pop", test, 3)]]
        right += [[("call", "f", 0), ("jump_pop", test, 4), b, ("jump", 5), none],
            [("call", "f", 0), ("jump_keep", test, 3), b]]
        right += [[constant, ("jump_pop", test, 4), b, ("jump", 5), a] for constant in [none, ("true",), ("false",)]]
        right += [[constant, ("jump_keep", test, 3), b] for constant in [none, ("true",), ("false",)]]
    # What cannot be come to: there any depth is right.
    right += [[a, ("jump", 3), pop], [a, ("jump", 4), ("under",), b], [("jump", 2), ("compare", "<"), a]]
    right += [[a, ("jump", 5), ("jump_keep", "true", 3), ("jump_pop", "none", 4), ("call", "f", 3)]]
    right += [[a, ("jump", 4), none, b], [("jump", 3), ("swap",), ("name", "c"), ("name", "d")]]
    right += [[("jump", 1), a, ("jump", 3)], [("jump", 1), ("jump", 2), ("jump", 3), none]]
    # At the bounds.
    right += [[a] + [("not",)] * 119, [a] * 60 + [pop] * 59 + [("not",)],
        [a] + [("jump", at + 1) for at in range(1, 120)]]
    right += [[("call", "f", 0), *[("call", "g", 1)] * 5], [a, *[("copy",), ("compare", "<")] * 6]]
    right += [[a, ("jump", 8), *[("call", "f", 0)] * 6], [*[("name", name) for name in "abcd"], pop, pop, pop]]
    return right + [[("name", "abcdefgh"), ("call", "abcdefgh", 1)]]


def some_code(source, length, names="ab", places=3):
    """Code made by a source of random numbers, often with idle jumps and parts that cannot be come to."""
    while True:
        code = code_try(source, length, names, places)
        if depths_in(code) is not None:
            return code


def code_try(source, length, names, places):
    depths, code, left = {0: 0}, [], places
    for at in range(length):
        depth = depths.get(at, source.randint(0, 2))
        words = ["name", "none", "true", "false"] * (depth < 3) + ["jump"] * 3
        words += ["not", "isnone", "copy", "pop", "jump_pop", "jump_pop", "jump_keep", "jump_keep"] * (depth > 0)
        words += ["swap"] * (depth > 1) + ["under"] * (depth > 2)
        words += (["call"] * 2 + ["compare"] * (depth > 1)) * (left > 0)
        word = source.choice(words)
        after = depth
        if word == "name":
            instruction, after = (word, source.choice(names)), depth + 1
        elif word == "call":
            many = source.randint(0, min(depth, 3))
            instruction, after, left = (word, source.choice("fg"), many), depth - many + 1, left - 1
        elif word == "compare":
            instruction, after, left = (word, source.choice(SIGNS)), depth - 1, left - 1
        elif word.startswith("jump"):
            to = source.randint(at + 1, min(length, at + 5))
            instruction = (word, to) if word == "jump" else (word, source.choice(TESTS), to)
            after = None if word == "jump" else depth - 1
            if depths.setdefault(to, depth - (word == "jump_pop")) != depth - (word == "jump_pop"):
                return [("pop",)]
        else:
            instruction = (word,)
            after = depth + {"copy": 1, "pop": -1, "none": 1, "true": 1, "false": 1}.get(word, 0)
        code.append(instruction)
        if after is not None and depths.setdefault(at + 1, after) != after:
            return [("pop",)]
    return code


class Grammar:
    """Which lists of events expressions make, by going through all ways to build an expression.

    The answers whose numbers are in `held` stand for themselves, like variables.
    """

    def __init__(self, events, held=()):
        self.events, self.held = events, held
        self.known = {}

    def once(self, method, *args):
        key = (method.__name__, *args)
        if key not in self.known:
            self.known[key] = method(*args)
        return self.known[key]

    def makes(self, low, high, value):
        """Whether an expression makes the events from low up to high, and then this value."""
        return self.once(self.value, low, high, value)

    def value(self, low, high, value):
        if value[0] != "object" or value[1][0] == "name" or value[1][1] in self.held:
            return self.once(self.dropped, low, high)
        if low == high or value[1][1] != high - 1:
            return False
        return any(self.once(self.dropped, low, at) and self.once(self.term, at, high) for at in range(low, high))

    def dropped(self, low, high):
        """Whether expressions one behind the other make the events, whatever their values are."""
        if low == high:
            return True
        return any(self.once(self.dropped, low, at) and self.once(self.term, at, high) for at in range(low, high))

    def term(self, low, high):
        """Whether a call or a comparison makes the events, its own event as the last one."""
        word, values = self.events[high - 1]
        if self.once(self.operands, low, high - 1, values):
            return True
        return word in SIGNS and any(
            self.events[at][0] in SIGNS and self.events[at][1][1] == values[0]
            and self.once(self.term, low, at + 1) and self.makes(at + 1, high - 1, values[1])
            for at in range(low, high - 1)
        )

    def operands(self, low, high, values):
        if not values:
            return low == high
        return any(
            self.makes(low, at, values[0]) and self.once(self.operands, at, high, values[1:])
            for at in range(low, high + 1)
        )

    def possible(self):
        return self.makes(0, len(self.events), NONE)


WORDS = ("name", "none", "true", "false", "not", "isnone", "and", "or", "default", "if", "call", "compare")


def some_expression(source, levels, names="abc", places=4):
    """An expression made by a source of random numbers, with at most so many levels and event places."""
    left = [places]

    def made(levels):
        word = source.choice(WORDS[:4] if levels <= 1 else WORDS + WORDS[4:])
        many = {"call": source.randint(0, 3), "compare": source.randint(1, 3)}.get(word)
        if word == "call" and left[0] >= 1:
            left[0] -= 1
            return call(source.choice("fg"), *[made(levels - 1) for _ in range(many)])
        if word == "compare" and left[0] >= many:
            left[0] -= many
            return compare(made(levels - 1), *[(source.choice(SIGNS), made(levels - 1)) for _ in range(many)])
        if word in ("not", "isnone"):
            return (word, made(levels - 1))
        if word in ("and", "or", "default"):
            return (word, made(levels - 1), made(levels - 1))
        if word == "if":
            return (word, made(levels - 1), made(levels - 1), made(levels - 1))
        if word in ("none", "true", "false"):
            return (word,)
        return ("name", source.choice(names))

    while True:
        left[0] = places
        expr = made(levels)
        if sum(1 for _ in walk(expr)) <= 40:
            return expr


def some_expressions(seed, many, levels=4, names="abc", places=4):
    source = random.Random(seed)
    return [some_expression(source, levels, names, places) for _ in range(many)]


def small_expressions():
    """Each form of expression, with each of a few operands at each place."""
    leaves = [A, B, NONE, TRUE, FALSE, call("f"), call("g", A)]
    yield from leaves
    for first in leaves:
        yield from [("not", first), ("isnone", first), call("h", first)]
        for second in leaves:
            for word in ("and", "or", "default"):
                yield (word, first, second)
            yield call("h", first, second)
            yield compare(first, ("<", second))
            for third in (A, TRUE, call("f")):
                yield ("if", first, second, third)
                yield compare(first, ("==", second), (">", third))


def deep(kind, levels):
    """A value nested so deep."""
    value = kind()
    for _ in range(levels - 1):
        value = {"a": value} if kind is dict else kind([value])
    return value


def no_values():
    """Values that are nothing at all: no expression, and no kinds, answers, path, number or text either."""
    return [
        None, True, False, 0, 1, -1, 10 ** 29, -10 ** 29, "", "a", "none", "a" * 2000, " \t\n", ["a"], [None],
        {"b": 1}, {(): {}}, (None,), (True,), ("a",), ((),), ([],), ("a", "b", "c", "d", "e"),
        deep(list, 50), deep(tuple, 50), deep(dict, 50), ("not",) * 30000, [0] * 30000,
    ]


def bad_expressions():
    """Values that are no expressions, by each way in which they may fail to be one."""
    bad = [*no_values(), (), [], {}]
    words = ["names", "NAME", "", " ", "is", "is none", "self", "call ", "<", "if not", "object", "event", "ask"]
    bad += [(word,) for word in words] + [(word, A) for word in words] + [(word, A, B) for word in words]
    # A part more or less.
    bad += [("name",), ("name", "a", "b"), ("none", "none"), ("none", A), ("true", A), ("false", FALSE)]
    bad += [("not",), ("not", A, B), ("isnone",), ("isnone", A, B)]
    bad += [(word, *parts) for word in ("and", "or", "default") for parts in [(), (A,), (A, B, C)]]
    bad += [("if", *parts) for parts in [(), (A,), (A, B), (A, B, C, D)]]
    bad += [("call",), ("call", "f"), ("call", "f", (), ()), ("call", "f", A), ("call", "f", (A, B, C, D))]
    bad += [("compare",), ("compare", A), ("compare", A, ()), ("compare", A, ("<", B)), ("compare", A, "<", B)]
    bad += [compare(A, *[("<", B)] * 5), compare(A, ("<",)), compare(A, ("<", B, C)), compare(A, ())]
    # Wrong signs and names.
    bad += [compare(A, (sign, B)) for sign in ["=", "<>", "", " <", "is", "??", "and", None, 0, True, ["<"], ("<",)]]
    names = ["", "A", "aB", "a1", "a_b", "a b", " a", "a\n", "abcdefghi", "a" * 2000, *BARRED]
    names += [None, True, 0, ["a"], ("a",), b"a", {"a": 1}]
    bad += [("name", name) for name in names] + [("call", name, ()) for name in names]
    # Lists in the place of tuples.
    bad += [["name", "a"], ["none"], ("call", "f", []), ("call", "f", [A]), ("compare", A, [("<", B)])]
    bad += [("compare", A, (["<", B],)), ["not", A], ("not", ["name", "a"]), ["and", A, B], ("if", A, B, ["none"])]
    # Other values in the places of words and operands.
    bad += [(word, "a") for word in (None, True, 0, ("name",), ["name"], {}, deep(list, 49))]
    bad += [(None,), (True,), (0,), ("call", "f", "a"), ("call", "f", None), ("call", "f", {}), ("compare", A, "<a")]
    for wrong in [None, True, False, 0, "a", (), [], {}, ("a",), deep(tuple, 40), [0] * 20000]:
        bad += [("not", wrong), ("isnone", wrong), call("f", wrong), call("f", A, wrong), call("f", A, B, wrong)]
        bad += [("and", wrong, A), ("or", A, wrong), ("default", wrong, A), ("default", A, wrong)]
        bad += [("if", wrong, A, B), ("if", A, wrong, B), ("if", A, B, wrong)]
        bad += [compare(wrong, ("<", A)), compare(A, ("<", wrong)), compare(A, ("<", B), (">", wrong))]
        bad += [nested(10, wrong)]
    # Just beyond each bound.
    bad += [too_many_parts(), too_many_levels(), too_many_variables(), too_many_calls(), too_many_links()]
    bad += [nested(48), ("call", "f", (A,) * 20000), ("compare", A, (("<", A),) * 5000), ("and",) + (A,) * 20000]
    return bad


def most_parts():
    """40 expressions: ("not", e) and 20 leaves joined by 19."""
    return ("not", joined([A, B] * 10))


def too_many_parts():
    return ("not", ("not", joined([A, B] * 10)))


def most_levels():
    return nested(11)


def too_many_levels():
    return nested(12)


def most_variables():
    return joined([A, B, C, D, A])


def too_many_variables():
    return joined([A, B, C, D, E])


def most_places():
    return ("and", joined([call("f"), call("g", A)]), compare(A, ("<", B), ("<=", C), (">", D), ("!=", A)))


def too_many_calls():
    return ("and", most_places(), call("h"))


def too_many_links():
    return ("or", most_places(), compare(A, ("<", B)))


def large_surveyable(last=("not", B)):
    """40 expressions, 3 variables and 4 event places, all of which happen; every part is alive."""
    chosen = ("if", A, ("or", B, C), ("default", C, ("not", B)))
    inner = call("f", ("if", A, ("or", B, C), ("default", C, last)))
    return call("f", chosen, call("g", chosen, call("h", chosen, inner)))


def surveyable(expr):
    return len(names_in(expr)) <= 3 and places_in(expr) <= 4


def replaced(expr, path, part):
    """The expression with another part in this place."""
    if path == ():
        return part
    parts = [replaced(old, path[1:], part) if at == path[0] else old for at, old in enumerate(below(expr))]
    match expr:
        case ("call", f, _):
            return call(f, *parts)
        case ("compare", _, links):
            return compare(parts[0], *[(sign, new) for (sign, _), new in zip(links, parts[1:])])
        case (word, *_):
            return (word, *parts)


class Case(unittest.TestCase):
    """A test case that can tell what a function leaves alone, and how long it takes."""

    def check_call(self, function, *args):
        """Call twice: the arguments stay, the answers are equal, and no list or dict is shared."""
        before = copy.deepcopy(args)
        start = time.perf_counter()
        answer = function(*args)
        self.assertLess(time.perf_counter() - start, SECONDS)
        kept = copy.deepcopy(answer)
        self.assertEqual(args, before)
        again = function(*args)
        self.assertEqual(again, kept)
        found = containers(answer) + containers(again)
        self.assertEqual(len(found), len({id(value) for value in found}))
        self.assertFalse({id(value) for value in containers(args)} & {id(value) for value in found})
        for value in containers(answer):
            value.clear()
        self.assertEqual(again, kept)
        self.assertEqual(function(*args), kept)
        self.assertEqual(args, before)
        return kept

    def check_error(self, error, function, *args, **attributes):
        """The call raises just this error, soon, with these attributes, and changes no argument."""
        before = copy.deepcopy(args)
        start = time.perf_counter()
        with self.assertRaises(error) as caught:
            function(*args)
        self.assertLess(time.perf_counter() - start, SECONDS)
        self.assertIs(type(caught.exception), error)
        for name, value in attributes.items():
            self.assertEqual(getattr(caught.exception, name), value, args)
            self.assertIs(type(getattr(caught.exception, name)), type(value))
        self.assertEqual(args, before)


def containers(value):
    """All lists and dicts in a value, each as often as it stands there."""
    found = [value] if isinstance(value, (list, dict)) else []
    if isinstance(value, dict):
        value = [*value.keys(), *value.values()]
    if isinstance(value, (list, tuple)):
        for item in value:
            found += containers(item)
    return found
