"""Promises [13] and [14]: paths, parts, and what parts do."""

import unittest

import helper
from helper import A, B, C, Case, D, FALSE, NONE, TRUE, Told, call, compare, nested, told
from keptops.errors import InvalidExpression, InvalidPath, InvalidWorld, TooLarge, TooMany
from keptops.exprs import check_expression, size
from keptops.parts import first_reach, first_result, origin, part_of, paths, pruned, with_part
from keptops.texts import read_expression
from keptops.trees import parting

F, G = call("f"), call("g")
WIDE = ("if", ("not", A), call("f", B, compare(A, ("<", C), (">", ("isnone", B)))), ("default", A, ("or", B, NONE)))
WRONG_PATHS = [
    (0, 0, 0), (3,), (-1,), (1, 2), (1, 1, 3), (1, 1, -1), (2, 1, 2), (10 ** 29,), (-10 ** 29,), [], [0], [1, 1],
    (True,), (False,), (1, True), (None,), ("0",), ("a",), ((0,),), ([0],), (0, None), "", "0", "01", "a", {}, {0: 0},
]


def samples():
    small = [expr for expr in helper.small_expressions() if helper.surveyable(expr)]
    dead = [
        "a and (a or f())", "f() if true else g()", "f() if not none else g()", "f() if none else g(a)",
        "(f() or true) and g() or h()", "(a is none) ?? f()", "(not a) ?? b", "a ?? b ?? c if a is none else a ?? f()",
        "(a if a else f()) if a else (f() if a else g())", "f(false and g())", "a < (true or b) < (none and b)",
        "(f() and not f() and none) if (g() or true) else h() and false",
        "(f() is none or true) ?? (a and not a and b)",
        "b if (a and not a) else c", "f() and false and g() and h()", "(f() if a and not a else g()) or (true or h())",
        "(a and not a and f()) or (b ?? c) if b is none and not b else (b or not b or g())",
    ]
    larger = helper.some_expressions(30, 60, levels=5)
    return [*small[::8], *[read_expression(text) for text in dead], *larger]


def inputs(expr):
    """All inputs in order, without those behind a failure."""
    lists = [answers for answers in helper.answer_lists(helper.places_in(expr)) if "x" not in answers[:-1]]
    return [(kinds, answers) for kinds in helper.worlds(helper.names_in(expr)) for answers in lists]


def least_inputs(expr):
    """By paths, the least inputs that reach the part, and those with which its value comes out."""
    reached, ended = {}, {}
    for kinds, answers in inputs(expr):
        run = Told(expr, kinds, answers)
        for path in run.reached:
            reached.setdefault(path, (kinds, answers))
        if run.origin is not None:
            ended.setdefault(run.origin, (kinds, answers))
    return reached, ended


class PathsTest(Case):
    def test_small_ones(self):
        self.assertEqual(self.check_call(paths, A), [()])
        self.assertEqual(self.check_call(paths, ("not", A)), [(), (0,)])
        self.assertEqual(self.check_call(paths, ("if", A, ("and", A, B), F)), [(), (0,), (1,), (1, 0), (1, 1), (2,)])
        self.assertEqual(paths(call("f", A, F, ("not", B))), [(), (0,), (1,), (2,), (2, 0)])
        self.assertEqual(paths(compare(A, ("<", ("not", B)), (">", C))), [(), (0,), (1,), (1, 0), (2,)])

    def test_what_stands_at_each_path(self):
        cases = [((), WIDE), ((0,), ("not", A)), ((0, 0), A), ((1, 0), B), ((1, 1, 0), A), ((1, 1, 1), C)]
        cases += [((1, 1, 2), ("isnone", B)), ((1, 1, 2, 0), B), ((2,), WIDE[3]), ((2, 1, 1), NONE)]
        for path, part in cases:
            self.assertEqual(self.check_call(part_of, WIDE, path), part)

    def test_all_paths_of_many(self):
        bounds = [helper.most_parts(), helper.most_levels(), helper.most_variables(), helper.most_places()]
        for expr in [*samples(), *bounds]:
            walked = list(helper.walk(expr))
            found = self.check_call(paths, expr)
            self.assertEqual(found, sorted(path for path, _ in walked))
            self.assertEqual(len(found), size(expr))
            for path, part in walked:
                self.assertEqual(part_of(expr, path), part)

    def test_wrong_paths(self):
        for path in [*helper.no_values(), *WRONG_PATHS]:
            self.check_error(InvalidPath, part_of, WIDE, path)
        for path in [(0,), (1,), (0, 0), None, [], True]:
            for leaf in (A, NONE, TRUE, FALSE, F):
                self.check_error(InvalidPath, part_of, leaf, path)
        cases = [(1, ("not", A)), (1, ("isnone", A)), (2, ("and", A, B)), (2, ("or", A, B)), (3, ("if", A, B, C))]
        cases += [(2, ("default", A, B)), (1, call("f", A)), (3, call("f", A, B, C)), (2, compare(A, ("<", B)))]
        for many, expr in cases:
            self.assertEqual(paths(expr)[-1], (many - 1,))
            self.check_error(InvalidPath, part_of, expr, (many,))

    def test_wrong_expressions_come_first(self):
        for wrong in helper.bad_expressions():
            self.check_error(InvalidExpression, paths, wrong)
            self.check_error(InvalidExpression, part_of, wrong, None)
            self.check_error(InvalidExpression, with_part, wrong, None, A)
            self.check_error(InvalidExpression, with_part, A, None, wrong)
            self.check_error(InvalidExpression, with_part, A, (), wrong)


class WithPartTest(Case):
    def test_each_form(self):
        self.assertEqual(self.check_call(with_part, A, (), F), F)
        self.assertEqual(self.check_call(with_part, ("not", A), (0,), F), ("not", F))
        self.assertEqual(with_part(("if", A, B, C), (0,), D), ("if", D, B, C))
        self.assertEqual(with_part(("if", A, B, C), (2,), A), ("if", A, B, A))
        self.assertEqual(self.check_call(with_part, call("f", A, B), (1,), G), call("f", A, G))
        chain = compare(A, ("<", B), (">=", C))
        self.assertEqual(with_part(chain, (0,), F), compare(F, ("<", B), (">=", C)))
        self.assertEqual(with_part(chain, (1,), F), compare(A, ("<", F), (">=", C)))
        self.assertEqual(self.check_call(with_part, chain, (2,), F), compare(A, ("<", B), (">=", F)))

    def test_at_each_path(self):
        for expr in samples():
            for path, part in helper.walk(expr):
                self.assertEqual(with_part(expr, path, part), expr)
                other = ("not", part)
                wanted = helper.replaced(expr, path, other)
                if size(expr) < 40 and helper.levels_in(wanted) <= 12:
                    self.assertEqual(with_part(expr, path, other), wanted)

    def test_at_the_bounds_and_just_beyond(self):
        cases = [
            (("not", helper.joined([A, B] * 10)), (0,) * 6, ("not", A), A),
            (nested(11), (0,) * 11, ("not", A), ("name", "z")), (nested(5), (0,) * 5, nested(7), nested(6)),
            (helper.joined([A, B, C, D, A]), (1,), ("name", "e"), D),
            (helper.most_places(), (1, 0), F, B), (helper.most_places(), (1, 4), compare(A, ("<", B)), ("not", A)),
        ]
        for expr, path, beyond, within in cases:
            self.check_error(TooLarge, with_part, expr, path, beyond)
            self.assertEqual(self.check_call(with_part, expr, path, within), helper.replaced(expr, path, within))
        self.check_error(TooLarge, with_part, helper.most_parts(), (0, 0), helper.most_parts())
        self.check_error(TooLarge, with_part, helper.most_levels(), (0,) * 11, helper.most_levels())
        self.assertEqual(with_part(helper.most_parts(), (), helper.most_places()), helper.most_places())

    def test_a_variable_may_make_room_for_another(self):
        self.assertEqual(with_part(helper.most_variables(), (0, 0, 1), ("name", "e")),
                         helper.replaced(helper.most_variables(), (0, 0, 1), ("name", "e")))

    def test_wrong_paths(self):
        for path in [*helper.no_values(), *WRONG_PATHS]:
            self.check_error(InvalidPath, with_part, WIDE, path, A)
        # Ahead of a result that would be too large.
        self.check_error(InvalidPath, with_part, helper.most_parts(), (1,), helper.most_parts())

    def test_a_wrong_other_comes_ahead_of_a_wrong_path(self):
        for other in helper.bad_expressions():
            self.check_error(InvalidExpression, with_part, WIDE, (0, 0, 0), other)


class ReachTest(Case):
    def test_small_ones(self):
        expr = ("and", A, F)
        self.assertEqual(self.check_call(first_reach, expr, ()), ({"a": "t"}, []))
        self.assertEqual(self.check_call(first_reach, expr, (1,)), ({"a": "t"}, []))
        self.assertEqual(first_reach(("or", A, F), (1,)), ({"a": "f"}, []))
        self.assertEqual(first_reach(("default", A, F), (1,)), ({"a": "n"}, []))
        self.assertEqual(self.check_call(first_reach, ("and", F, G), (1,)), ({}, ["t"]))
        self.assertEqual(first_reach(compare(F, ("<", G), (">", A)), (2,)), ({"a": "t"}, ["t", "t", "t"]))
        self.assertEqual(first_reach(("or", F, ("default", G, B)), (1, 1)), ({"b": "t"}, ["f", "n"]))
        self.assertIsNone(self.check_call(first_reach, ("and", FALSE, A), (1,)))
        self.assertIsNone(first_reach(("and", A, ("or", A, F)), (1, 1)))

    def test_fewer_answers_count_ahead_of_lesser_ones(self):
        expr = read_expression("(f() and g() and false) or h()")
        self.assertEqual(first_reach(expr, (1,)), ({}, ["f"]))
        self.assertEqual(first_reach(("if", F, ("or", G, A), A), (1, 1)), ({"a": "t"}, ["t", "f"]))

    def test_the_least_inputs_of_all(self):
        for expr in samples():
            reached, ended = least_inputs(expr)
            for path, _ in helper.walk(expr):
                self.assertEqual(first_reach(expr, path), reached.get(path))
                self.assertEqual(first_result(expr, path), ended.get(path))


class OriginTest(Case):
    def test_small_ones(self):
        self.assertEqual(self.check_call(origin, A, {"a": "n"}, []), ())
        expr = ("or", ("and", A, B), ("default", C, ("not", A)))
        kinds = {"a": "t", "b": "t", "c": "t"}
        self.assertEqual(self.check_call(origin, expr, kinds, []), (0, 1))
        self.assertEqual(origin(expr, {**kinds, "a": "f"}, []), (1, 0))
        self.assertEqual(origin(expr, {"a": "f", "b": "t", "c": "n"}, ["x"]), (1, 1))
        self.assertEqual(origin(("if", A, B, C), {"a": "t", "b": "t", "c": "t"}, []), (1,))
        self.assertEqual(origin(("if", A, B, C), {"a": "n", "b": "t", "c": "t"}, []), (2,))
        self.assertEqual(origin(("and", A, B), {"a": "f", "b": "t"}, []), (0,))

    def test_no_value_no_origin(self):
        self.assertIsNone(self.check_call(origin, F, {}, []))
        self.assertIsNone(self.check_call(origin, F, {}, ["x"]))
        self.assertIsNone(origin(("and", F, G), {}, ["t"]))
        self.assertEqual(origin(("and", F, G), {}, ["f"]), (0,))
        self.assertEqual(origin(("and", F, G), {}, ["t", "n"]), (1,))

    def test_the_way_ends_at_other_expressions(self):
        for expr in [("not", ("and", A, B)), ("isnone", ("or", A, B)), call("f", ("and", A, B)), compare(A, ("<", B))]:
            self.assertEqual(origin(expr, {"a": "t", "b": "t"}, ["t"]), ())

    def test_all_inputs(self):
        for expr in samples():
            for kinds, answers in inputs(expr)[::3]:
                self.assertEqual(origin(expr, kinds, answers), Told(expr, kinds, answers).origin)

    def test_also_beyond_what_is_surveyable(self):
        for expr in [helper.most_parts(), helper.most_variables(), helper.most_places()]:
            kinds = dict.fromkeys("abcd", "t")
            for answers in (["t"] * 6, ["f"] * 6, []):
                self.assertEqual(self.check_call(origin, expr, kinds, answers), Told(expr, kinds, answers).origin)

    def test_wrong_worlds(self):
        for kinds in [*helper.no_values(), {}, {"a": "x"}]:
            self.check_error(InvalidWorld, origin, A, kinds, [])
        for answers in [*helper.no_values(), (), ["q"], ["t", None], "t"]:
            self.check_error(InvalidWorld, origin, A, {"a": "t"}, answers)
        for wrong in helper.bad_expressions():
            self.check_error(InvalidExpression, origin, wrong, None, None)


class ResultTest(Case):
    def test_small_ones(self):
        expr = ("and", A, F)
        self.assertIsNone(self.check_call(first_result, expr, ()))
        self.assertEqual(self.check_call(first_result, expr, (0,)), ({"a": "f"}, []))
        self.assertEqual(self.check_call(first_result, expr, (1,)), ({"a": "t"}, ["t"]))
        self.assertEqual(first_result(("default", F, A), (1,)), ({"a": "t"}, ["n"]))
        self.assertEqual(first_result(NONE, ()), ({}, []))
        self.assertIsNone(first_result(("not", A), (0,)))
        self.assertIsNone(first_result(("if", A, B, C), (0,)))

    def test_the_value_of_an_operand_of_and_that_is_never_false(self):
        self.assertIsNone(first_result(("and", TRUE, A), (0,)))


class PrunedTest(Case):
    def test_small_ones(self):
        cases = {
            "a and (a or f())": "a and a", "a if true else b": "true and a", "a if none else b": "none or b",
            "f(true or g())": "f(true)", "(not a) ?? b": "not a", "false and f()": "false", "none ?? a": "none ?? a",
            "f() and true": "f() and true", "a if a or not a else b": "(a or not a) and a",
        }
        for text, wanted in cases.items():
            found = self.check_call(pruned, read_expression(text))
            self.assertEqual(found, read_expression(wanted))

    def test_the_events_of_a_condition_stay(self):
        expr = read_expression("f(a) if g() or true else h()")
        found = self.check_call(pruned, expr)
        self.assertIsNone(parting(found, expr))
        self.assertEqual(told(found, {"a": "f"}, ["n", "t"])[0], [("g", ()), ("f", (helper.obj("name", "a"),))])

    def test_many(self):
        shorter = 0
        for expr in samples():
            reached = least_inputs(expr)[0]
            found = self.check_call(pruned, expr)
            if len(reached) == size(expr):
                self.assertEqual(found, expr)
            else:
                shorter += 1
                self.check_pruned(expr, found)
        self.assertGreater(shorter, 30)

    def check_pruned(self, expr, found):
        self.assertIsNone(check_expression(found))
        self.assertLess(size(found), size(expr))
        self.assertIsNone(parting(expr, found))
        self.assertEqual(len(least_inputs(found)[0]), size(found))
        self.assertLessEqual(set(helper.names_in(found)), set(helper.names_in(expr)))
        self.assertLessEqual(helper.places_in(found), helper.places_in(expr))
        self.assertEqual(pruned(found), found)


class ErrorsTest(Case):
    def test_wrong_expressions_come_first(self):
        for wrong in helper.bad_expressions():
            self.check_error(InvalidExpression, first_reach, wrong, None)
            self.check_error(InvalidExpression, first_result, wrong, None)
            self.check_error(InvalidExpression, pruned, wrong)

    def test_too_many_comes_ahead_of_a_wrong_path(self):
        links = compare(A, ("<", A), ("<", A), ("<", A), ("<", A))
        for expr in [helper.most_variables(), helper.most_places(), ("and", F, links)]:
            self.check_error(TooMany, pruned, expr)
            for path in [(), (9,), None]:
                self.check_error(TooMany, first_reach, expr, path)
                self.check_error(TooMany, first_result, expr, path)

    def test_wrong_paths(self):
        expr = read_expression("f(b, a < c < (b is none)) if not a else a ?? (b or none)")
        for path in [*helper.no_values(), *WRONG_PATHS]:
            self.check_error(InvalidPath, first_reach, expr, path)
            self.check_error(InvalidPath, first_result, expr, path)

    def test_at_the_bounds(self):
        expr = helper.large_surveyable()
        self.assertEqual(self.check_call(pruned, expr), expr)
        for path in paths(expr)[::4]:
            self.assertIsNotNone(self.check_call(first_reach, expr, path))
            self.check_call(first_result, expr, path)
        never = ("and", nested(4, FALSE), compare(A, ("<", B), ("<", C)))
        self.assertIsNone(self.check_call(first_reach, never, (1, 2)))
        dead = helper.replaced(expr, (0, 2), ("and", FALSE, ("not", C)))
        self.assertEqual(self.check_call(pruned, dead), helper.replaced(expr, (0, 2), FALSE))


if __name__ == "__main__":
    unittest.main()
