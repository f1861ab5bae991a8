"""Promises [9] and [10]: call trees, complete runs, and the least input that parts two expressions."""

import unittest

import helper
from helper import A, ANSWERS, B, C, Case, D, FALSE, KINDS, NONE, TRUE, call, compare, obj, told
from keptops.errors import InvalidExpression, InvalidNumber, InvalidRun, InvalidWorld, TooMany
from keptops.evaluation import evaluate
from keptops.texts import read_expression
from keptops.trees import call_tree, count_runs, nth_run, parting, parting_test, run_number

F, G, H = call("f"), call("g"), call("h")


def samples():
    """Expressions of each form, and some larger ones."""
    return [*list(helper.small_expressions())[::7], *helper.some_expressions(10, 40, levels=4, places=4)]


class CallTreeTest(Case):
    def test_small_ones(self):
        done = ("done", NONE)
        self.assertEqual(self.check_call(call_tree, A, {"a": "t"}), ("done", obj("name", "a")))
        self.assertEqual(call_tree(A, {"a": "n"}), done)
        answered = ("done", obj("event", 0))
        self.assertEqual(self.check_call(call_tree, F, {}), ("ask", ("f", ()), (answered, answered, done)))
        asked = ("ask", ("g", (obj("event", 0),)), (("done", obj("event", 1)), ("done", obj("event", 1)), done))
        expr = ("and", F, call("g", F))
        self.assertEqual(call_tree(("and", F, NONE), {}), ("ask", ("f", ()), (done, answered, done)))
        self.assertEqual(call_tree(call("g", F), {})[2][:2], (asked, asked))
        self.assertEqual(call_tree(expr, {})[2][1:], (answered, done))

    def test_along_every_way_trees_agree_with_evaluate(self):
        for expr in samples():
            for kinds in helper.worlds(helper.names_in(expr)):
                self.check_ways(expr, kinds, call_tree(expr, kinds), [], [])

    def check_ways(self, expr, kinds, tree, answers, events):
        if tree[0] == "done":
            self.assertEqual(len(tree), 2)
            return self.assertEqual(evaluate(expr, kinds, answers), (events, ("value", tree[1])))
        word, event, behind = tree
        self.assertEqual(word, "ask")
        self.assertIs(type(behind), tuple)
        self.assertEqual(len(behind), 3)
        events = [*events, event]
        self.assertEqual(evaluate(expr, kinds, answers), (events, ("wanting",)))
        self.assertEqual(evaluate(expr, kinds, [*answers, "x"]), (events, ("failed", len(answers))))
        for kind, below in zip(KINDS, behind):
            self.check_ways(expr, kinds, below, [*answers, kind], events)

    def test_wrong_arguments(self):
        for wrong in helper.bad_expressions():
            self.check_error(InvalidExpression, call_tree, wrong, None)
        for kinds in [*helper.no_values(), {}, {"b": "t"}, {"a": "x"}]:
            self.check_error(InvalidWorld, call_tree, A, kinds)
        self.assertEqual(call_tree(A, {"a": "n", "b": "x", 3: None}), ("done", NONE))

    def test_at_the_bounds(self):
        for expr in [helper.most_parts(), helper.most_levels(), helper.most_variables(), helper.most_places()]:
            kinds = {name: "t" for name in "abcd"}
            for function in (call_tree, count_runs):
                self.check_call(function, expr, kinds)
        six = call("f", call("f", call("f", call("f", call("f", F)))))
        self.assertEqual(count_runs(six, {}), 3 ** 6 + (3 ** 6 - 1) // 2)
        self.assertEqual(self.check_call(nth_run, six, {}, 0), ["t"] * 6)
        self.assertEqual(self.check_call(nth_run, six, {}, count_runs(six, {}) - 1), ["x"])
        self.assertEqual(self.check_call(run_number, six, {}, ["n"] * 6), count_runs(six, {}) - 7)


class RunsTest(Case):
    def test_small_ones(self):
        self.assertEqual(self.check_call(count_runs, A, {"a": "f"}), 1)
        self.assertEqual(self.check_call(nth_run, A, {"a": "f"}, 0), [])
        self.assertEqual(self.check_call(run_number, A, {"a": "f"}, []), 0)
        expr = ("and", F, G)
        runs = [["t", "t"], ["t", "f"], ["t", "n"], ["t", "x"], ["f"], ["n"], ["x"]]
        self.assertEqual(self.check_call(count_runs, expr, {}), 7)
        self.assertEqual([self.check_call(nth_run, expr, {}, n) for n in range(7)], runs)
        self.assertEqual([self.check_call(run_number, expr, {}, run) for run in runs], list(range(7)))

    def test_all_runs_in_order(self):
        for expr in samples():
            for kinds in helper.worlds(helper.names_in(expr))[::2]:
                runs = helper.runs_of(expr, kinds)
                self.assertEqual(count_runs(expr, kinds), len(runs))
                for n in sorted({0, len(runs) - 1, *range(0, len(runs), 5)}):
                    self.assertEqual(nth_run(expr, kinds, n), runs[n])
                    self.assertEqual(run_number(expr, kinds, runs[n]), n)
                self.check_error(InvalidNumber, nth_run, expr, kinds, len(runs))

    def test_wrong_expressions_and_worlds_come_first(self):
        for wrong in helper.bad_expressions():
            self.check_error(InvalidExpression, count_runs, wrong, {})
            self.check_error(InvalidExpression, nth_run, wrong, None, None)
            self.check_error(InvalidExpression, run_number, wrong, None, None)
        for kinds in [*helper.no_values(), {}, {"b": "t"}, {"a": "x"}]:
            self.check_error(InvalidWorld, count_runs, A, kinds)
            self.check_error(InvalidWorld, nth_run, A, kinds, -1)
            self.check_error(InvalidWorld, nth_run, A, kinds, None)
            self.check_error(InvalidWorld, run_number, A, kinds, ["t"])
            self.check_error(InvalidWorld, run_number, A, kinds, None)

    def test_wrong_numbers(self):
        wrong = [value for value in helper.no_values() if value != 0 and value != 1]
        for n in [*wrong, False, True, 7, -7, "0", (0,)]:
            self.check_error(InvalidNumber, nth_run, ("and", F, G), {}, n)
        self.check_error(InvalidNumber, nth_run, NONE, {}, 1)
        self.check_error(InvalidNumber, nth_run, NONE, {}, False)

    def test_wrong_runs(self):
        expr = ("and", F, G)
        wrong = [*helper.no_values(), [], ["t"], ["f", "t"], ["x", "x"], ["t", "x", "t"], ["t", "t", "t"], ["q"]]
        wrong += [("t", "t"), "tt", ["t", None], ["t", "T"], ["f", "q"], ["x", None], {"t": "t"}, [["t"], ["t"]], ()]
        for answers in wrong:
            self.check_error(InvalidRun, run_number, expr, {}, answers)
        for answers in [(), ["t"], ["x"], None, "", {}]:
            self.check_error(InvalidRun, run_number, NONE, {}, answers)


class PartingTest(Case):
    def test_the_document(self):
        one, other = read_expression("a and b or a"), read_expression("b if a else a")
        self.assertEqual(self.check_call(parting, one, other), ({"a": "t", "b": "f"}, []))
        self.assertIsNone(self.check_call(parting_test, read_expression("not not a"), A))

    def test_alike_expressions(self):
        pairs = [
            ("a and b", "b if a else a"), ("a or b", "a if a else b"), ("a ?? b", "b if a is none else a"),
            ("not a", "false if a else true"), ("f() and (g() and h())", "(f() and g()) and h()"),
            ("a < b < c", "(b < c) if false else a < b < c"), ("a", "a if b else a"),
            ("f(a) if true else g(b)", "f(a)"), ("not not not f()", "not f()"), ("none ?? f()", "f()"),
            ("(a is none) ?? f()", "a is none"),
            ("a and a", "a or a"), ("f() and none or none", "none if f() else none"),
        ]
        for one, other in pairs:
            one, other = read_expression(one), read_expression(other)
            for first, second in [(one, other), (other, one), (one, one)]:
                self.assertIsNone(self.check_call(parting, first, second))
                self.assertIsNone(self.check_call(parting_test, first, second))

    def test_only_the_truth_is_equal(self):
        for one, other, answers in [
            ("not not f()", "f()", ["t"]), ("a or true", "true", None), ("f() or none", "f()", ["f"]),
            ("a is none or a", "true if a else a is none", None),
            ("f() and g()", "not not (f() and g())", ["f"]),
        ]:
            one, other = read_expression(one), read_expression(other)
            self.assertIsNone(parting_test(one, other))
            self.assertIsNone(parting_test(other, one))
            found = parting(one, other)
            self.assertEqual(found, helper.least_parting(one, other, helper.equal))
            if answers is not None:
                self.assertEqual(found, ({}, answers))

    def test_wanting_against_not_wanting(self):
        self.assertEqual(self.check_call(parting, F, NONE), ({}, []))
        self.assertEqual(self.check_call(parting_test, NONE, F), ({}, []))
        self.assertEqual(parting(("and", A, F), A), ({"a": "t"}, []))
        self.assertEqual(parting(F, G), ({}, []))
        self.assertEqual(parting(call("f", A), call("f", B)), ({"a": "t", "b": "t"}, []))
        self.assertEqual(parting(compare(A, ("<", B)), compare(A, ("<=", B))), ({"a": "t", "b": "t"}, []))
        self.assertEqual(parting(("and", F, G), ("and", F, H)), ({}, ["t"]))
        self.assertEqual(parting(("or", F, G), ("or", F, H)), ({}, ["f"]))
        self.assertEqual(parting(("default", F, G), F), ({}, ["n"]))

    def test_variables_that_stand_in_one_alone(self):
        self.assertEqual(self.check_call(parting, A, B), ({"a": "t", "b": "t"}, []))
        self.assertEqual(self.check_call(parting, ("and", B, C), A), ({"a": "t", "b": "t", "c": "t"}, []))
        self.assertEqual(parting(("or", A, B), A), ({"a": "f", "b": "t"}, []))
        self.assertEqual(parting(("if", B, A, ("not", A)), A), ({"a": "t", "b": "f"}, []))
        self.assertIsNone(parting(("if", ("and", B, C), A, A), A))
        self.assertEqual(parting_test(TRUE, ("or", C, ("isnone", B))), ({"b": "t", "c": "f"}, []))
        self.assertEqual(list(parting(("and", C, B), A)[0]), ["a", "b", "c"])

    def check_least(self, one, other):
        for first, second in [(one, other), (other, one)]:
            self.assertEqual(parting(first, second), helper.least_parting(first, second, helper.equal))
            self.assertEqual(parting_test(first, second), helper.least_parting(first, second, helper.equal_truth))

    def test_the_least_input_of_all(self):
        exprs = helper.some_expressions(11, 70, levels=4, names="ab", places=2)
        for one, other in zip(exprs, exprs[1:]):
            self.check_least(one, other)
        small = [expr for expr in helper.small_expressions() if helper.surveyable(expr)]
        for one, other in zip(small[::5], small[1::5]):
            self.check_least(one, other)

    def test_the_least_input_of_expressions_that_differ_little(self):
        """One part of an expression is exchanged, so the input that parts them lies deep."""
        for expr in helper.some_expressions(12, 25, levels=4, names="ab", places=3):
            for path, part in list(helper.walk(expr))[1::2]:
                other = helper.replaced(expr, path, ("not", part))
                self.check_least(expr, other)

    def test_failures_alone_part_nothing(self):
        """Where the answers are the least ones, both are alike behind an event that fails."""
        exprs = helper.some_expressions(13, 60, levels=4, names="ab", places=3)
        for one, other in zip(exprs, exprs[1:]):
            found = parting(one, other)
            if found is not None:
                self.assertNotIn("x", found[1])

    def test_wrong_expressions_come_first(self):
        large = helper.most_variables()
        for wrong in helper.bad_expressions():
            for function in (parting, parting_test):
                self.check_error(InvalidExpression, function, wrong, A)
                self.check_error(InvalidExpression, function, A, wrong)
                self.check_error(InvalidExpression, function, large, wrong)
                self.check_error(InvalidExpression, function, wrong, large)

    def test_what_is_surveyable(self):
        five = call("f", call("f", call("f", call("f", F))))
        four = five[2][0]
        links = compare(A, ("<", A), ("<", A), ("<", A), ("<", A))
        for function in (parting, parting_test):
            self.check_call(function, ("and", A, B), ("or", C, A))
            self.check_call(function, four, links)
            four_names = helper.most_variables()
            for one, other in [(("and", A, B), ("and", C, D)), (four_names, A), (NONE, four_names)]:
                self.check_error(TooMany, function, one, other)
            for one, other in [(five, NONE), (NONE, five), (links, ("and", F, links)), (five, five)]:
                self.check_error(TooMany, function, one, other)

    def test_at_the_bounds(self):
        one = helper.large_surveyable()
        self.assertEqual((helper.places_in(one), len(list(helper.walk(one)))), (4, 40))
        other = helper.large_surveyable(("isnone", B))
        for function in (parting, parting_test):
            self.assertIsNone(self.check_call(function, one, one))
            self.assertEqual(self.check_call(function, one, other), ({"a": "f", "b": "f", "c": "n"}, []))
        four = call("f", call("g", call("h", call("f", A))))
        self.assertEqual(self.check_call(parting, four, ("and", four, A)), ({"a": "t"}, ["t"] * 4))


if __name__ == "__main__":
    unittest.main()
