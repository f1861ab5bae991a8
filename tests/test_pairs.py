"""Promises [24] and [25]: whether two programs are alike, and the tables that show it."""

import random
import unittest

import helper
from helper import A, B, C, Case, D, FALSE, KINDS, NONE, Played, TRUE, call, compare, told_by_places
from keptops.errors import InvalidPair, InvalidProgram, TooMany
from keptops.pairs import compare_programs, table_error
from keptops.programs import check_program
from keptops.texts import read_expression

F, G, H = call("f"), call("g"), call("h")
P, Q = ("name", "p"), ("name", "q")


def kept(*names):
    return tuple((name, "none") for name in names)


def cache_by(text):
    """A program that keeps what it loads, by the expression for it."""
    return ((), kept("c"), (("set", "c", read_expression(text)), ("give", C)))


CACHE = ((), kept("c"), (("if", ("isnone", C), (("set", "c", call("load")),), ()), ("give", C)))
OR_CACHE, DEFAULT_CACHE = cache_by("c or load()"), cache_by("c ?? load()")


def least_difference(one, other, most):
    """The least history of up to so many calls for which the programs differ, by playing all; or None."""
    for history in helper.histories([one, other], most):
        first, second = Played(one, history).calls[-1], Played(other, history).calls[-1]
        if told_by_places(one, first) != told_by_places(other, second):
            return history
    return None


def first_wrong_call(one, other, table):
    """What table_error is to return for a list of states that begins rightly."""
    for number, state in enumerate(table):
        for found, (first, second) in helper.calls_from([one, other], state):
            same = told_by_places(one, first.calls[-1]) == told_by_places(other, second.calls[-1])
            complete = first.calls[-1].complete
            if not same or (complete and helper.state_behind(first, second) not in table):
                return ("call", number, found)
    return None


def renamed(program, names):
    """The same program with other names."""
    def expression(expr):
        for path, part in list(helper.walk(expr)):
            if part[0] == "name":
                expr = helper.replaced(expr, path, ("name", names[part[1]]))
        return expr

    def block(rows):
        return tuple(row(found) for found in rows)

    def row(found):
        match found:
            case ("set", x, e):
                return ("set", names[x], expression(e))
            case ("give", e):
                return ("give", expression(e))
            case ("if", e, yes, no):
                return ("if", expression(e), block(yes), block(no))
            case ("try", body, handler):
                return ("try", block(body), block(handler))

    parameters, found, rows = program
    return (tuple(names[x] for x in parameters), tuple((names[x], constant) for x, constant in found), block(rows))


def rewritten(source, block):
    """Rows that do the same in another way."""
    found = []
    for row in block:
        match row:
            case ("set", x, e):
                choice = [("set", x, e)], [("if", TRUE, (row,), ())], [("set", x, ("default", NONE, e)),
                    ("set", x, ("name", x))]
            case ("give", e):
                choice = [row], [("if", NONE, (), (row,))], [("give", ("if", FALSE, NONE, e)), ("give", TRUE)]
            case ("if", e, yes, no):
                yes, no = rewritten(source, yes), rewritten(source, no)
                choice = [("if", e, yes, no)], [("if", ("not", e), no, yes)], [("try", (), ()), ("if", e, yes, no)]
            case ("try", body, handler):
                body, handler = rewritten(source, body), rewritten(source, handler)
                choice = [("try", body, handler)], [("try", body, (*handler, ("try", (), ())))]
        found += source.choice(choice)
    return tuple(found)


def some_pairs(seed, many):
    """Pairs of small programs, with at most four kept names together, alike ones among them."""
    source = random.Random(seed)
    while many > 0:
        parameters = ("p", "q")[:source.randint(0, 2)]
        constants = [source.choice(["none", "none", "true", "false"]) for _ in "ab"]
        names = tuple(zip("ab"[:source.randint(1, 2)], constants))
        places = source.randint(1, 3 - len(parameters))
        if source.random() < 0.3:
            one = helper.some_program(source, parameters, names, places, rows=6)
        else:
            one = helper.lively_program(source, parameters, names, places)
        other = (one[0], one[1][::source.choice([1, -1])], rewritten(source, one[2]))
        if source.random() < 0.7:
            # One expression is another one.
            path = source.randrange(len(helper.expressions_in(other[2])) or 1)
            other = (*other[:2], changed(source, other[2], [path]))
        other = renamed(other, {"a": "x", "b": "y", "p": "q", "q": "b"})
        try:
            check_program(other)
        except InvalidProgram:
            continue
        if helper.program_places(other) + len(parameters) <= 3:
            many -= 1
            yield one, other


def changed(source, block, left):
    """The rows with the expression of the number that is left changed."""
    found = []
    for row in block:
        parts = []
        for part in row:
            if type(part) is tuple and (part == () or type(part[0]) is tuple):
                part = changed(source, part, left)
            elif type(part) is tuple:
                if left[0] == 0:
                    part = source.choice([("not", part), ("isnone", part), NONE, TRUE, ("default", part, TRUE),
                        ("or", part, F)])
                left[0] -= 1
            parts.append(part)
        found.append(tuple(parts))
    return tuple(found)


class PairCase(Case):
    def check_pair(self, one, other, most=3):
        """Compare with all histories of so many calls, and, where there is a table, with all that it says."""
        found = compare_programs(one, other)
        if found[0] == "unlike":
            word, history = found
            if len(history) <= most:
                self.assertEqual(history, least_difference(one, other, most))
            else:
                self.assertIsNone(least_difference(one, other, most))
                first, second = Played(one, history), Played(other, history)
                self.assertNotEqual(told_by_places(one, first.calls[-1]), told_by_places(other, second.calls[-1]))
                self.assertTrue(all(call.complete for call in first.calls[:-1] + second.calls[:-1]))
            return word
        word, table = found
        self.assertIsNone(least_difference(one, other, min(most, 2)))
        self.check_table(one, other, table)
        return word

    def check_table(self, one, other, table):
        self.assertIs(type(table), list)
        self.assertIsNone(table_error(one, other, table))
        self.assertIsNone(first_wrong_call(one, other, table))
        come = helper.states_that_come([one, other])
        self.assertEqual(table[0], next(iter(come)))
        self.assertEqual(len(table), len(set(table)))
        self.assertEqual(set(table), set(come))


class CompareTest(PairCase):
    def test_the_document(self):
        self.assertEqual(self.check_call(compare_programs, CACHE, OR_CACHE), ("unlike", [((), ["f"]), ((), [])]))
        word, table = self.check_call(compare_programs, CACHE, DEFAULT_CACHE)
        self.assertEqual(word, "alike")
        self.assertEqual(set(table), {("none", "none"), ((0, "t"), (0, "t")), ((0, "f"), (0, "f"))})

    def test_small_ones(self):
        def gives(*exprs, parameters=(), names=()):
            return (parameters, kept(*names), tuple(("give", expr) for expr in exprs))

        one, two = gives(P, parameters=("p",)), gives(Q, parameters=("p", "q"))
        self.assertEqual(compare_programs(one, gives(("name", "z"), parameters=("z",)))[0], "alike")
        self.assertEqual(compare_programs(two, gives(P, parameters=("q", "p")))[0], "alike")
        self.assertEqual(compare_programs(two, gives(P, parameters=("p", "q"))), ("unlike", [(("t", "t"), [])]))
        self.assertEqual(compare_programs(one, gives(TRUE, parameters=("p",))), ("unlike", [(("t",), [])]))
        self.assertEqual(compare_programs(one, gives(("and", P, P), parameters=("p",)))[0], "alike")
        self.assertEqual(compare_programs(gives(NONE), gives()), ("alike", [()]))
        self.assertEqual(compare_programs(gives(F), gives(NONE)), ("unlike", [((), [])]))
        self.assertEqual(compare_programs(gives(("not", F)), gives(("isnone", F))), ("unlike", [((), ["f"])]))
        fails = ((), (), (("try", (("give", F),), (("give", NONE),)),))
        self.assertEqual(compare_programs(gives(F), fails), ("unlike", [((), ["x"])]))
        self.assertEqual(compare_programs(one, gives(("not", ("not", P)), parameters=("p",))),
            ("unlike", [(("t",), [])]))
        zero = gives(("if", P, P, NONE), parameters=("p",))
        self.assertEqual(compare_programs(one, zero), ("unlike", [(("f",), [])]))

    def test_what_is_kept(self):
        """What differs only in later calls."""
        last = (("p",), kept("a"), (("set", "a", P), ("give", NONE)))
        self.assertEqual(compare_programs(last, (("p",), (), ()))[0], "alike")
        delayed = (("p",), kept("a", "b"), (("set", "b", A), ("set", "a", P), ("give", B)))
        twice = (("p",), kept("a", "b"), (("set", "b", ("and", A, A)), ("set", "a", P), ("give", B)))
        self.assertEqual(self.check_call(compare_programs, delayed, twice)[0], "alike")
        truth = (("p",), kept("a"), (("if", A, (("set", "a", P), ("give", TRUE)), (("set", "a", P), ("give", NONE))),))
        self.assertEqual(compare_programs(delayed, truth), ("unlike", [(("t",), []), (("t",), [])]))
        late = ((), kept("a", "b"), (("if", B, (("give", F),), ()), ("if", A, (("set", "b", TRUE),), ()),
            ("set", "a", TRUE)))
        self.assertEqual(self.check_call(compare_programs, late, ((), (), ())), ("unlike", [((), [])] * 3))

    def test_which_objects_are_the_same(self):
        same = (("p",), kept("a"), (("set", "a", P), ("give", call("f", A, P))))
        other = (("q",), kept("b", "c"), (("set", "c", Q), ("set", "b", ("name", "c")), ("give", call("f", B, C))))
        self.check_pair(same, other)
        self.assertEqual(compare_programs(same, other)[0], "alike")
        older = (("q",), kept("b"), (("give", call("f", ("default", B, Q), Q)), ("set", "b", Q)))
        self.assertEqual(compare_programs(same, older)[0], "alike")
        keeps = (("q",), kept("b"), (("set", "b", ("default", B, Q)), ("give", call("f", B, Q))))
        self.assertEqual(compare_programs(same, keeps), ("unlike", [(("t",), ["t"]), (("t",), [])]))

    def test_events_are_numbered_through_each_call(self):
        """In one row or in several ones: what is told tells the number in the call."""
        one = ((), (), (("give", call("h", F, G)),))
        other = ((), kept("a", "b"), (("set", "a", F), ("set", "b", G), ("give", call("h", A, B))))
        self.assertEqual(self.check_call(compare_programs, one, other)[0], "alike")
        turned = (*other[:2], (("set", "b", F), ("set", "a", G), ("give", call("h", A, B))))
        self.assertEqual(compare_programs(one, turned), ("unlike", [((), ["t", "t"])]))
        one = ((), (), (("give", ("and", F, ("and", G, H))),))
        other = ((), kept("a"), (("set", "a", F), ("if", A, (("set", "a", ("and", G, H)),), ()), ("give", A)))
        self.assertEqual(compare_programs(one, other)[0], "alike")
        other = ((), kept("a"), (("set", "a", ("and", F, G)), ("if", A, (("give", H),), ()), ("give", A)))
        self.assertEqual(compare_programs(one, other)[0], "alike")
        truth = (*other[:2], (*other[2][:1], ("if", A, (("give", ("and", H, A)),), ()), ("give", A)))
        self.assertEqual(compare_programs(one, truth), ("unlike", [((), ["t", "t", "t"])]))

    def test_calls_ahead_are_complete_and_a_failure_is_an_end(self):
        one = ((), kept("a"), (("set", "a", F), ("set", "a", G), ("give", A)))
        other = ((), kept("a"), (("if", ("isnone", A), (), (("give", TRUE),)), ("set", "a", F), ("set", "a", G),
            ("give", A)))
        # A failure of g leaves the answer of f: that call ends, too.
        self.assertEqual(compare_programs(one, other), ("unlike", [((), ["t", "t"]), ((), [])]))
        other = ((), kept("a"), (("if", ("isnone", A), (), (("give", TRUE),)), ("set", "a", F), ("give", ("not", G))))
        one = ((), kept("a"), (("set", "a", F), ("give", ("not", G))))
        self.assertEqual(compare_programs(one, other), ("unlike", [((), ["t", "t"]), ((), [])]))
        other = ((), kept("a"), (("if", ("isnone", A), (), (("give", TRUE),)), ("if", F, (("set", "a", G),), ())))
        one = ((), (), (("if", F, (("if", G, (), ()),), ()),))
        self.assertEqual(compare_programs(one, other), ("unlike", [((), ["t", "t"]), ((), [])]))

    def test_many_pairs(self):
        told = {"alike": 0, "unlike": 0}
        for one, other in some_pairs(81, 130):
            word = self.check_pair(one, other, 2 if helper.program_places(one) + len(one[0]) == 3 else 3)
            told[word] += 1
            turned = compare_programs(other, one)
            if word == "unlike":
                self.assertEqual(turned, compare_programs(one, other))
            else:
                self.assertEqual(turned[0], "alike")
                self.check_table(other, one, turned[1])
        self.assertGreater(min(told.values()), 25)

    def test_programs_that_have_nothing_in_common(self):
        source = random.Random(82)
        for _ in range(60):
            parameters = ("p",)[:source.randint(0, 1)]
            one = helper.some_program(source, parameters, kept("a"), places=2, rows=4)
            other = helper.some_program(source, parameters, kept("b", "c"), places=2, rows=4)
            self.check_pair(one, other, 2)

    def test_at_the_bounds(self):
        """Four kept names together, three event places, 30 rows and large expressions."""
        names = kept(*"abcd")
        rows = [("set", name, large(name)) for name in "abcd" * 7]
        tries = tuple(("try", (("set", name, call(word)),), ()) for name, word in zip("abc", "fgh"))
        one = ((), names, (*tries, *rows[:24]))
        shift = [("set", "d", C), ("set", "c", B), ("set", "b", A), ("try", (("set", "a", G),), (("set", "a", FALSE),))]
        swap = [("set", "d", A), ("set", "a", B), ("set", "b", D)]
        turn = [("set", "d", A), ("set", "a", B), ("set", "b", C), ("set", "c", D)]
        inner = ("if", F, tuple(shift), (("if", H, (("set", "d", A), ("set", "a", TRUE)), tuple(swap)),))
        moving = ((), names, (("try", (inner,), tuple(turn)), *rows[:12]))
        asks = ("if", F, (("try", (("if", G, (), ()),), ()),), (("if", H, (), ()),))
        nothing = ((), (), tuple(("try", (("if", call(word), (), ()),), ()) for word in "fgh"))
        same = ((), (), (("try", (asks,), ()),))
        for first, second in [(one, nothing), (nothing, one), (moving, same), (same, moving)]:
            word, table = self.check_call(compare_programs, first, second)
            self.assertEqual(word, "alike")
            self.assertGreater(len(table), 20)
            self.assertIsNone(self.check_call(table_error, first, second, table))
        self.assertEqual(self.check_call(compare_programs, one, same)[0], "unlike")


def large(name):
    """40 expressions that are alike to a variable."""
    some = helper.joined([("not", ("name", x)) for x in "abcdab"])
    return ("if", some, ("name", name), ("if", ("isnone", some), ("name", name), ("name", name)))


class TableTest(PairCase):
    ONE, OTHER = CACHE, DEFAULT_CACHE
    TABLE = [("none", "none"), ((0, "t"), (0, "t")), ((0, "f"), (0, "f"))]

    def test_tables(self):
        for table in [self.TABLE, [self.TABLE[0], self.TABLE[2], self.TABLE[1]]]:
            self.assertIsNone(self.check_call(table_error, self.ONE, self.OTHER, table))

    def test_states_that_need_not_come(self):
        for state in [("true", "true"), ("false", "false")]:
            self.assertIsNone(table_error(self.ONE, self.OTHER, [*self.TABLE, state]))
        wide = (("p",), kept("a", "b"), (("give", P),))
        all_states = [("none", "none"), ((0, "t"), (0, "t")), ((0, "t"), (1, "f")), ("true", (0, "f")),
            ((0, "f"), "none")]
        self.assertIsNone(self.check_call(table_error, wide, (("q",), (), (("give", Q),)), all_states))

    def test_no_table(self):
        for table in [value for value in helper.no_values() if not isinstance(value, list)] + [[], (), {},
            tuple(self.TABLE)]:
            self.assertEqual(self.check_call(table_error, self.ONE, self.OTHER, table), ("table",))

    def test_no_states(self):
        wrong = [*helper.no_values(), (), [], ("none",), ("none",) * 3, ["none", "none"], "no", ("nil", "none"),
            ("n", "n")]
        wrong += [("none", entry) for entry in [None, True, 0, "", "object", "t", (), (0,), (0, "t", "t"), [0, "t"],
            ("t", 0)]]
        wrong += [("none", entry) for entry in [(0, "n"), (0, "x"), (0, True), (0, None), (0, ["t"]), (1, "t"),
            (-1, "t")]]
        wrong += [("none", entry) for entry in [(True, "t"), (False, "t"), ("0", "t"), (None, "t"), (10 ** 29, "f"),
            {}]]
        wrong += [((0, "t"), (0, "f")), ((0, "f"), (0, "t")), ((1, "t"), (0, "t")), ((0, "t"), (2, "t")),
            ((0, "t"), (True, "t"))]
        wrong += [((0, "t"), (False, "t")), ((0, "t"), (-1, "t")), (("none",), "none"),
            ((0, "t"), ("object", (0, "t")))]
        for value in wrong:
            for number in range(4):
                table = [*self.TABLE[:number], value, *self.TABLE[number:]]
                self.assertEqual(table_error(self.ONE, self.OTHER, table), ("state", number), value)
                # The first one counts, and it counts ahead of a wrong beginning.
                self.assertEqual(table_error(self.ONE, self.OTHER, [*table[::-1], value]), ("state", 3 - number))

    def test_a_state_that_stands_ahead_already(self):
        for number in range(3):
            table = [*self.TABLE, self.TABLE[number]]
            self.assertEqual(self.check_call(table_error, self.ONE, self.OTHER, table), ("state", 3))
        self.assertEqual(table_error(self.ONE, self.OTHER, [self.TABLE[1]] * 2), ("state", 1))

    def test_the_beginning(self):
        for table in [self.TABLE[1:], self.TABLE[::-1], [("true", "true")], [((0, "t"), (0, "t"))]]:
            self.assertEqual(self.check_call(table_error, self.ONE, self.OTHER, table), ("begin",))
        one = ((), (("a", "true"), ("b", "false")), ())
        self.assertIsNone(table_error(one, ((), (), ()), [("true", "false")]))
        self.assertEqual(table_error(one, ((), (), ()), [("false", "true")]), ("begin",))
        self.assertEqual(table_error(one, ((), (), (("give", F),)), [("false", "true")]), ("begin",))

    def test_calls(self):
        cases = [
            (self.TABLE[:1], ("call", 0, ((), ["t"]))), (self.TABLE[:2], ("call", 0, ((), ["f"]))),
            ([self.TABLE[0], self.TABLE[2]], ("call", 0, ((), ["t"]))),
            # What is told from states that do not come counts, too.
            ([*self.TABLE, ((0, "t"), (1, "t"))], ("call", 3, ((), []))),
            ([*self.TABLE, ("none", "true")], ("call", 3, ((), []))),
            ([self.TABLE[0], ((0, "t"), "none"), *self.TABLE[1:]], ("call", 1, ((), []))),
            ([*self.TABLE, ("true", (0, "t"))], ("call", 3, ((), []))),
        ]
        for table, wanted in cases:
            self.assertEqual(self.check_call(table_error, self.ONE, self.OTHER, table), wanted)
            self.assertEqual(first_wrong_call(self.ONE, self.OTHER, table), wanted)

    def test_programs_that_are_unlike(self):
        """No table shows that they are alike: it goes wrong at the history that parts them, or ahead of it."""
        table = [("none", "none"), ((0, "t"), (0, "t")), ((0, "f"), (0, "f"))]
        self.assertEqual(self.check_call(table_error, CACHE, OR_CACHE, table), ("call", 2, ((), [])))
        self.assertEqual(table_error(((), (), (("give", F),)), ((), (), (("give", ("not", F)),)), [()]),
            ("call", 0, ((), ["t"])))
        self.assertEqual(table_error(((), (), (("give", F),)), ((), (), (("give", G),)), [()]), ("call", 0, ((), [])))
        self.assertEqual(table_error(((), (), ()), ((), (), (("give", G),)), [()]), ("call", 0, ((), [])))

    def test_a_missing_state_ahead_of_a_call_that_parts_them(self):
        one = (("p",), kept("a"), (("set", "a", P), ("give", P)))
        other = (("p",), kept("a"), (("set", "a", P), ("give", ("if", P, P, TRUE))))
        self.assertEqual(table_error(one, other, [("none", "none")]), ("call", 0, (("t",), [])))
        self.assertEqual(table_error(one, other, [("none", "none"), ((0, "t"), (0, "t"))]), ("call", 0, (("f",), [])))

    def test_many(self):
        source = random.Random(83)
        wrong = 0
        for one, other in some_pairs(84, 60):
            come = list(helper.states_that_come([one, other]))
            for _ in range(4):
                rest = source.sample(come[1:], source.randint(0, len(come) - 1))
                more = [helper.state_behind(Played(one, []), Played(other, []))]
                table = [come[0], *rest[:12]]
                more = [state for state in self.some_states(source, len(come[0])) if state not in table]
                table += more[:1] * source.randint(0, 1)
                wanted = first_wrong_call(one, other, table)
                wrong += wanted is not None
                self.assertEqual(table_error(one, other, table), wanted)
        self.assertGreater(wrong, 100)

    def some_states(self, source, many):
        numbers, state = [], []
        for _ in range(many):
            if source.random() < 0.4:
                state.append(source.choice(["none", "true", "false"]))
            else:
                number = source.randint(0, len(numbers))
                if number == len(numbers):
                    numbers.append(source.choice("tf"))
                state.append((number, numbers[number]))
        return [tuple(state)]


class ErrorsTest(PairCase):
    def test_wrong_programs_come_first(self):
        wide = (("p", "q"), kept(*"abcd"), (("give", helper.most_calls()),))
        for wrong in helper.bad_programs()[::3]:
            for function in (compare_programs, lambda one, other: table_error(one, other, None)):
                self.check_error(InvalidProgram, function, wrong, CACHE)
                self.check_error(InvalidProgram, function, CACHE, wrong)
                self.check_error(InvalidProgram, function, wide, wrong)

    def test_different_numbers_of_parameters(self):
        programs = [((), (), ()), (("p",), (), ()), (("p", "q"), kept(*"abcd"), (("give", helper.most_calls()),))]
        for one in programs:
            for other in programs:
                if one is not other:
                    self.check_error(InvalidPair, compare_programs, one, other)
                    self.check_error(InvalidPair, table_error, one, other, None)

    def test_too_many(self):
        def of(parameters, names, places):
            return (tuple("pq"[:parameters]), kept(*"abcd"[:names]), tuple(("if", F, (), ()) for _ in range(places)))

        within = [((0, 4, 3), (0, 0, 3)), ((0, 2, 3), (0, 2, 0)), ((1, 3, 2), (1, 1, 2)), ((2, 0, 1), (2, 4, 1))]
        beyond = [((0, 4, 3), (0, 1, 3)), ((0, 2, 0), (0, 3, 0)), ((0, 3, 0), (0, 2, 0)), ((0, 0, 4), (0, 0, 3))]
        beyond += [((0, 0, 3), (0, 0, 4)), ((1, 1, 3), (1, 1, 2)), ((1, 1, 2), (1, 1, 3)), ((2, 0, 2), (2, 0, 1))]
        beyond += [((2, 0, 1), (2, 0, 2)), ((2, 4, 6), (2, 4, 6)), ((0, 4, 6), (0, 0, 0))]
        for one, other in within:
            self.assertIn(self.check_call(compare_programs, of(*one), of(*other))[0], ("alike", "unlike"))
            self.assertEqual(table_error(of(*one), of(*other), None), ("table",))
        for one, other in beyond:
            self.check_error(TooMany, compare_programs, of(*one), of(*other))
            self.check_error(TooMany, table_error, of(*one), of(*other), None)
            self.check_error(TooMany, table_error, of(*one), of(*other), [])

    def test_links_are_event_places(self):
        four = ((), (), (("give", compare(NONE, *[("<", NONE)] * 4)),))
        three = ((), (), (("give", compare(NONE, *[("<", NONE)] * 3)),))
        self.check_error(TooMany, compare_programs, four, four)
        self.assertEqual(self.check_call(compare_programs, three, three), ("alike", [()]))


class KindsTest(PairCase):
    def test_the_order_of_calls(self):
        """By the kinds, then by the number of the answers, then by the answers."""
        def of(*exprs):
            return (("p", "q"), (), tuple(("if", expr, (("give", TRUE),), ()) for expr in exprs))

        for first in KINDS:
            for second in KINDS:
                test = ("and", looks(P, first), looks(Q, second))
                self.assertEqual(compare_programs(of(test), of()), ("unlike", [((first, second), [])]))

        def asks(expr):
            return ((), (), (("give", expr),))

        one = asks(("or", F, G))
        self.assertEqual(compare_programs(one, asks(("or", F, ("not", G)))), ("unlike", [((), ["f", "t"])]))
        self.assertEqual(compare_programs(one, asks(("or", F, ("default", G, TRUE)))), ("unlike", [((), ["f", "n"])]))
        self.assertEqual(compare_programs(one, asks(("default", F, G))), ("unlike", [((), ["f"])]))
        two = asks(("and", ("not", F), call("g")))
        self.assertEqual(compare_programs(two, asks(("and", ("isnone", F), call("g")))), ("unlike", [((), ["f"])]))


def looks(expr, kind):
    """A test for the kind of what a variable holds."""
    return {"t": expr, "n": ("isnone", expr), "f": ("not", ("or", expr, ("isnone", expr)))}[kind]


if __name__ == "__main__":
    unittest.main()
