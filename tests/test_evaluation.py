"""Promises [5] and [6]: objects, kinds, sources, values, events, and evaluate."""

import itertools
import unittest

import helper
from helper import A, ANSWERS, B, C, Case, D, FALSE, KINDS, NONE, TRUE, call, compare, obj, told
from keptops.errors import InvalidExpression, InvalidWorld
from keptops.evaluation import evaluate

F, G, H = call("f"), call("g"), call("h")
OBJECT_A, OBJECT_B = obj("name", "a"), obj("name", "b")


def value_of(expr, kinds=None, answers=()):
    """The value that comes out."""
    word, value = evaluate(expr, kinds or {}, list(answers))[1]
    assert word == "value"
    return value


class ValuesTest(Case):
    def test_a_variable_is_its_object(self):
        self.assertEqual(self.check_call(evaluate, A, {"a": "t"}, []), ([], ("value", OBJECT_A)))
        self.assertEqual(evaluate(A, {"a": "f"}, []), ([], ("value", OBJECT_A)))

    def test_an_object_of_the_kind_n_is_none(self):
        self.assertEqual(evaluate(A, {"a": "n"}, []), ([], ("value", NONE)))
        self.assertEqual(evaluate(F, {}, ["n"]), ([("f", ())], ("value", NONE)))
        self.assertEqual(evaluate(call("g", A), {"a": "n"}, ["n"]), ([("g", (NONE,))], ("value", NONE)))
        self.assertEqual(evaluate(compare(A, ("<", F)), {"a": "n"}, ["n", "n"])[0], [("f", ()), ("<", (NONE, NONE))])

    def test_constants(self):
        for constant in (NONE, TRUE, FALSE):
            self.assertEqual(self.check_call(evaluate, constant, {}, []), ([], ("value", constant)))

    def test_not_and_isnone(self):
        for kind, negated, none in [("t", FALSE, FALSE), ("f", TRUE, FALSE), ("n", TRUE, TRUE)]:
            self.assertEqual(value_of(("not", A), {"a": kind}), negated)
            self.assertEqual(value_of(("isnone", A), {"a": kind}), none)
            self.assertEqual(value_of(("not", F), {}, [kind]), negated)
            self.assertEqual(value_of(("isnone", F), {}, [kind]), none)
        for constant, negated, none in [(NONE, TRUE, TRUE), (TRUE, FALSE, FALSE), (FALSE, TRUE, FALSE)]:
            self.assertEqual(value_of(("not", constant)), negated)
            self.assertEqual(value_of(("isnone", constant)), none)

    def test_one_of_two_operands_comes_out(self):
        first = {"t": OBJECT_A, "f": OBJECT_A, "n": NONE}
        for kind, other in itertools.product(KINDS, KINDS):
            kinds = {"a": kind, "b": other}
            second = NONE if other == "n" else OBJECT_B
            self.assertEqual(value_of(("and", A, B), kinds), second if kind == "t" else first[kind])
            self.assertEqual(value_of(("or", A, B), kinds), first[kind] if kind == "t" else second)
            self.assertEqual(value_of(("default", A, B), kinds), second if kind == "n" else first[kind])
            self.assertEqual(value_of(("if", A, B, A), kinds), second if kind == "t" else first[kind])
            self.assertEqual(value_of(("if", A, A, B), kinds), first[kind] if kind == "t" else second)

    def test_constants_decide_too(self):
        self.assertEqual(value_of(("and", TRUE, FALSE)), FALSE)
        self.assertEqual(value_of(("and", NONE, TRUE)), NONE)
        self.assertEqual(value_of(("or", FALSE, NONE)), NONE)
        self.assertEqual(value_of(("or", TRUE, NONE)), TRUE)
        self.assertEqual(value_of(("default", FALSE, TRUE)), FALSE)
        self.assertEqual(value_of(("default", NONE, FALSE)), FALSE)
        self.assertEqual(value_of(("if", NONE, TRUE, FALSE)), FALSE)


class OrderTest(Case):
    def test_what_is_not_evaluated(self):
        cases = [
            (("and", F, G), "t", True), (("and", F, G), "f", False), (("and", F, G), "n", False),
            (("or", F, G), "t", False), (("or", F, G), "f", True), (("or", F, G), "n", True),
            (("default", F, G), "t", False), (("default", F, G), "f", False), (("default", F, G), "n", True),
        ]
        for expr, kind, goes_on in cases:
            events, outcome = evaluate(expr, {}, [kind, "t"])
            self.assertEqual(events, [("f", ()), ("g", ())] if goes_on else [("f", ())])
            wanted = obj("event", 1) if goes_on else NONE if kind == "n" else obj("event", 0)
            self.assertEqual(outcome, ("value", wanted))

    def test_just_one_side_of_if(self):
        for kind in KINDS:
            events, outcome = evaluate(("if", F, G, H), {}, [kind, "f"])
            self.assertEqual(events, [("f", ()), ("g" if kind == "t" else "h", ())])
            self.assertEqual(outcome, ("value", obj("event", 1)))

    def test_operands_in_order_then_the_call(self):
        expr = call("h", F, NONE, call("g", A))
        events = [("f", ()), ("g", (OBJECT_A,)), ("h", (obj("event", 0), NONE, obj("event", 1)))]
        answer = (events, ("value", obj("event", 2)))
        self.assertEqual(self.check_call(evaluate, expr, {"a": "f"}, ["t", "f", "t"]), answer)

    def test_a_default_is_evaluated_once(self):
        self.assertEqual(evaluate(("default", F, NONE), {}, ["t", "t"]), ([("f", ())], ("value", obj("event", 0))))


class ComparisonTest(Case):
    def test_one_link(self):
        for sign in helper.SIGNS:
            for kind in KINDS:
                answer = NONE if kind == "n" else obj("event", 0)
                wanted = ([(sign, (OBJECT_A, TRUE))], ("value", answer))
                self.assertEqual(evaluate(compare(A, (sign, TRUE)), {"a": "t"}, [kind]), wanted)

    def test_a_chain_goes_on_while_true(self):
        expr = compare(F, ("<", G), ("<=", H))
        f, g, h, first = ("f", ()), ("g", ()), ("h", ()), ("<", (obj("event", 0), obj("event", 1)))
        second = ("<=", (obj("event", 1), obj("event", 3)))
        answer = ([f, g, first, h, second], ("value", obj("event", 4)))
        self.assertEqual(self.check_call(evaluate, expr, {}, ["t", "f", "t", "t", "f"]), answer)
        self.assertEqual(evaluate(expr, {}, ["t", "f", "f", "t", "t"]), ([f, g, first], ("value", obj("event", 2))))
        self.assertEqual(evaluate(expr, {}, ["t", "f", "n", "t", "t"]), ([f, g, first], ("value", NONE)))
        self.assertEqual(evaluate(expr, {}, ["t", "f", "x", "t", "t"]), ([f, g, first], ("failed", 2)))
        self.assertEqual(evaluate(expr, {}, ["t", "f"]), ([f, g, first], ("wanting",)))

    def test_the_value_ahead_is_not_evaluated_again(self):
        expr = compare(A, ("<", F), ("<", B), ("==", C), ("!=", D))
        kinds = {"a": "t", "b": "n", "c": "f", "d": "t"}
        events = [("f", ()), ("<", (OBJECT_A, NONE)), ("<", (NONE, NONE)), ("==", (NONE, obj("name", "c")))]
        events += [("!=", (obj("name", "c"), obj("name", "d")))]
        for last in KINDS:
            value = NONE if last == "n" else obj("event", 4)
            self.assertEqual(evaluate(expr, kinds, ["n", "t", "t", "t", last]), (events, ("value", value)))

    def test_the_answer_is_used_like_any_value(self):
        expr = ("and", compare(A, ("<", B)), A)
        self.assertEqual(evaluate(expr, {"a": "f", "b": "f"}, ["t"])[1], ("value", OBJECT_A))
        self.assertEqual(evaluate(expr, {"a": "f", "b": "f"}, ["f"])[1], ("value", obj("event", 0)))


class OutcomesTest(Case):
    def test_an_event_fails(self):
        expr = call("h", F, G)
        self.assertEqual(self.check_call(evaluate, expr, {}, ["x", "t", "t"]), ([("f", ())], ("failed", 0)))
        self.assertEqual(evaluate(expr, {}, ["n", "x"]), ([("f", ()), ("g", ())], ("failed", 1)))
        events = [("f", ()), ("g", ()), ("h", (NONE, obj("event", 1)))]
        self.assertEqual(evaluate(expr, {}, ["n", "f", "x"]), (events, ("failed", 2)))

    def test_no_answer_is_left(self):
        expr = call("h", F, G)
        self.assertEqual(self.check_call(evaluate, expr, {}, []), ([("f", ())], ("wanting",)))
        self.assertEqual(evaluate(expr, {}, ["t"]), ([("f", ()), ("g", ())], ("wanting",)))

    def test_answers_too_many_are_ignored(self):
        self.assertEqual(evaluate(A, {"a": "t"}, ["x"] * 20), ([], ("value", OBJECT_A)))
        self.assertEqual(evaluate(F, {}, ["f"] + ["x"] * 19), ([("f", ())], ("value", obj("event", 0))))

    def test_six_events(self):
        expr = helper.most_places()
        kinds = {"a": "t", "b": "f", "c": "n", "d": "f"}
        events, outcome = self.check_call(evaluate, expr, kinds, ["t"] * 6)
        self.assertEqual([event[0] for event in events], ["f", "g", "<", "<=", ">", "!="])
        self.assertEqual(outcome, ("value", obj("event", 5)))


class AllInputsTest(Case):
    def test_small_expressions(self):
        lists = helper.answer_lists(3)
        for expr in helper.small_expressions():
            for kinds in helper.worlds(helper.names_in(expr)):
                for answers in lists[:1 + 4 ** helper.places_in(expr) * 2]:
                    self.assertEqual(evaluate(expr, kinds, answers), told(expr, kinds, answers))

    def test_larger_expressions(self):
        for expr in helper.some_expressions(6, 150, levels=5, names="abcd", places=6):
            for kinds in helper.worlds(helper.names_in(expr))[::5]:
                for answers in helper.runs_of(expr, kinds)[::7]:
                    for many in range(len(answers) + 1):
                        self.assertEqual(evaluate(expr, kinds, answers[:many]), told(expr, kinds, answers[:many]))

    def test_at_the_bounds(self):
        for expr in [helper.most_parts(), helper.most_levels(), helper.most_variables(), helper.most_places()]:
            for kinds in helper.worlds(helper.names_in(expr)):
                for answers in ([], ["t"] * 6, ["t", "f", "n", "x"], ["n"] * 20):
                    self.assertEqual(evaluate(expr, kinds, answers), told(expr, kinds, answers))


class WrongTest(Case):
    def test_no_expression_ahead_of_a_wrong_world(self):
        for wrong in helper.bad_expressions():
            self.check_error(InvalidExpression, evaluate, wrong, {"a": "t", "b": "t"}, [])
            self.check_error(InvalidExpression, evaluate, wrong, None, ["q"])

    def test_wrong_kinds(self):
        for kinds in [{}, {"b": "t"}, {"A": "t"}, {0: "t"}, *[value for value in helper.no_values()]]:
            self.check_error(InvalidWorld, evaluate, A, kinds, [])
            self.check_error(InvalidWorld, evaluate, ("or", TRUE, A), kinds, [])
        for kind in [*[value for value in helper.no_values()], "x", "T", "tf", ("t",), ["t"], b"t"]:
            self.check_error(InvalidWorld, evaluate, A, {"a": kind}, [])
            self.check_error(InvalidWorld, evaluate, ("and", FALSE, ("or", A, B)), {"a": "t", "b": kind}, [])
        self.check_error(InvalidWorld, evaluate, ("and", A, B), {"a": "t"}, [])

    def test_kinds_that_are_no_dict_without_variables(self):
        for kinds in [None, True, 0, "", "t", [], (), [("a", "t")], (("a", "t"),)]:
            self.check_error(InvalidWorld, evaluate, NONE, kinds, [])

    def test_other_keys_are_ignored(self):
        kinds = {"b": "t", "a": "f", "z": "x", 0: None, None: [], (1, 2): {}, "and": 7}
        self.assertEqual(self.check_call(evaluate, A, kinds, []), ([], ("value", OBJECT_A)))
        self.assertEqual(self.check_call(evaluate, NONE, kinds, []), ([], ("value", NONE)))

    def test_wrong_answers(self):
        for answers in [*helper.no_values(), (), ("t",), "t", "tf", {"t": "t"}, {}]:
            self.check_error(InvalidWorld, evaluate, F, {}, answers)
            self.check_error(InvalidWorld, evaluate, NONE, {}, answers)

    def test_wrong_items_also_where_they_are_not_used(self):
        for item in [*helper.no_values(), "T", "X", "tt", ("t",), ["t"], b"t"]:
            self.check_error(InvalidWorld, evaluate, F, {}, [item])
            self.check_error(InvalidWorld, evaluate, F, {}, ["t", item])
            self.check_error(InvalidWorld, evaluate, F, {}, ["x", "t", item])
            self.check_error(InvalidWorld, evaluate, NONE, {}, ["t"] * 19 + [item])

    def test_each_answer_is_one(self):
        for answer in ANSWERS:
            self.assertEqual(evaluate(NONE, {}, [answer]), ([], ("value", NONE)))


if __name__ == "__main__":
    unittest.main()
