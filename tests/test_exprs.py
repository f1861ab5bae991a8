"""Promises [2], names, and [4]: expressions."""

import unittest

import helper
from helper import A, B, C, BARRED, Case, FALSE, NONE, SIGNS, TRUE, call, compare, nested
from keptops.errors import InvalidExpression
from keptops.exprs import check_expression, event_places, size, variables

FUNCTIONS = (check_expression, variables, size, event_places)


class FormsTest(Case):
    def test_each_form_is_an_expression(self):
        for expr in helper.small_expressions():
            self.assertIsNone(self.check_call(check_expression, expr))

    def test_calls_with_each_number_of_operands(self):
        for many in range(4):
            self.assertIsNone(check_expression(call("f", *[A, B, C][:many])))
        self.check_error(InvalidExpression, check_expression, call("f", A, A, A, A))

    def test_comparisons_with_each_number_of_links(self):
        for many in range(1, 5):
            for sign in SIGNS:
                self.assertIsNone(check_expression(compare(A, *[(sign, B)] * many)))
        for many in (0, 5):
            self.check_error(InvalidExpression, check_expression, compare(A, *[("<", B)] * many))

    def test_names(self):
        for name in ["a", "z", "az", "abcdefgh", "ands", "an", "nots", "nones", "object", "name", "isnone", "event"]:
            self.assertIsNone(check_expression(("name", name)))
            self.assertIsNone(check_expression(call(name)))

    def test_what_is_no_name(self):
        wrong = ["", "abcdefghi", "a" * 2000, "A", "aA", "a1", "1", "a_", "_", "a b", " a", "a ", "a\n", "a\t", "a-b"]
        wrong += ["`", "{", "a`", "a{", *BARRED, None, True, False, 0, 1, ("a",), ["a"], {"a": "a"}, A]
        self.assertEqual(len(BARRED), 18)
        for name in wrong:
            self.check_error(InvalidExpression, check_expression, ("name", name))
            self.check_error(InvalidExpression, check_expression, call(name))
            self.check_error(InvalidExpression, check_expression, ("not", call(name, A)))

    def test_a_function_may_have_the_name_of_a_variable(self):
        self.assertEqual(variables(call("a", A, call("b"))), ["a"])


class WrongTest(Case):
    def test_all_functions_refuse_what_is_no_expression(self):
        for wrong in helper.bad_expressions():
            for function in FUNCTIONS:
                self.check_error(InvalidExpression, function, wrong)

    def test_also_deep_within_an_expression(self):
        for wrong in helper.bad_expressions():
            if wrong != helper.too_many_levels():
                self.check_error(InvalidExpression, check_expression, ("and", A, nested(3, ("or", wrong, B))))


class BoundsTest(Case):
    def test_at_the_bounds(self):
        for expr in [helper.most_parts(), helper.most_levels(), helper.most_variables(), helper.most_places()]:
            for function in FUNCTIONS:
                self.check_call(function, expr)
        self.assertEqual(size(helper.most_parts()), 40)
        self.assertEqual(helper.levels_in(helper.most_levels()), 12)
        self.assertEqual(variables(helper.most_variables()), ["a", "b", "c", "d"])
        self.assertEqual(event_places(helper.most_places()), 6)

    def test_just_beyond_the_bounds(self):
        beyond = [helper.too_many_parts(), helper.too_many_levels(), helper.too_many_variables()]
        for expr in [*beyond, helper.too_many_calls(), helper.too_many_links()]:
            for function in FUNCTIONS:
                self.check_error(InvalidExpression, function, expr)

    def test_parts_are_counted_at_each_place(self):
        half = helper.joined([A] * 10)
        self.assertEqual(size(half), 19)
        self.assertEqual(size(("and", half, half)), 39)
        self.assertEqual(size(("not", ("and", half, half))), 40)
        self.check_error(InvalidExpression, size, ("if", A, half, ("not", half)))

    def test_levels_of_each_form(self):
        low = nested(10)
        high = nested(11)
        forms = [
            lambda e: ("isnone", e), lambda e: ("and", e, A), lambda e: ("and", A, e), lambda e: ("or", A, e),
            lambda e: ("default", A, e), lambda e: ("if", e, A, A), lambda e: ("if", A, e, A),
            lambda e: ("if", A, A, e), lambda e: call("f", e), lambda e: call("f", A, A, e),
            lambda e: compare(e, ("<", A)), lambda e: compare(A, ("<", e)), lambda e: compare(A, ("<", A), ("<", e)),
        ]
        for form in forms:
            self.assertIsNone(check_expression(form(low)))
            self.check_error(InvalidExpression, check_expression, form(high))
        for leaf in [A, NONE, TRUE, FALSE, call("f")]:
            self.assertIsNone(check_expression(nested(11, leaf)))
            self.check_error(InvalidExpression, check_expression, nested(12, leaf))
        self.check_error(InvalidExpression, check_expression, nested(11, call("f", A)))


class CountsTest(Case):
    def test_small_ones(self):
        cases = [
            (A, ["a"], 1, 0), (NONE, [], 1, 0), (TRUE, [], 1, 0), (FALSE, [], 1, 0), (call("f"), [], 1, 1),
            (("not", B), ["b"], 2, 0), (("isnone", call("f", B)), ["b"], 3, 1), (("and", B, A), ["a", "b"], 3, 0),
            (("or", C, C), ["c"], 3, 0), (("if", C, B, A), ["a", "b", "c"], 4, 0), (("default", A, A), ["a"], 3, 0),
            (call("f", A, call("g"), C), ["a", "c"], 4, 2), (compare(B, ("<", A)), ["a", "b"], 3, 1),
            (compare(call("f"), ("<", A), ("==", call("g", B)), ("!=", A)), ["a", "b"], 6, 5),
        ]
        for expr, names, parts, places in cases:
            self.assertEqual(self.check_call(variables, expr), names)
            self.assertEqual(self.check_call(size, expr), parts)
            self.assertEqual(self.check_call(event_places, expr), places)

    def test_many(self):
        for expr in helper.some_expressions(4, 200, names="dbca", places=6):
            self.assertEqual(self.check_call(variables, expr), helper.names_in(expr))
            self.assertEqual(size(expr), sum(1 for _ in helper.walk(expr)))
            self.assertEqual(event_places(expr), helper.places_in(expr))
            self.assertIs(type(size(expr)), int)
            self.assertIs(type(event_places(expr)), int)


if __name__ == "__main__":
    unittest.main()
