"""Promise [21]: expressions as flat code, and code without idle jumps."""

import itertools
import random
import unittest

import helper
from helper import (
    A, B, C, Case, CodeRun, D, FALSE, KINDS, NONE, SETTLED, TESTS, TRUE, bad_codes, call, compare, right_codes, told,
)
from keptops.compiling import code_parting, compile_expression, threaded
from keptops.errors import InvalidCode, InvalidExpression, TooMany
from keptops.flat import check_code, count_steps, run_code
from keptops.texts import read_expression

NAME, POP = ("name", "a"), ("pop",)


def inputs(code, most=6):
    for kinds in helper.worlds(helper.names_in_code(code)):
        for answers in helper.answer_lists(min(most, helper.events_in_code(code))):
            yield kinds, answers


class CompileTest(Case):
    def check_compiled(self, expr, worlds=None):
        code = compile_expression(expr)
        self.assertIsNone(check_code(code))
        self.assertEqual(helper.idle_jumps(code), [])
        self.assertNotIn(None, helper.depths_in(code))
        self.assertLessEqual(helper.events_in_code(code), helper.places_in(expr))
        self.assertLessEqual(set(helper.names_in_code(code)), set(helper.names_in(expr)))
        for kinds in worlds or helper.worlds(helper.names_in(expr)):
            for answers in [[], *helper.runs_of(expr, kinds), ["t"], ["f"], ["n", "t"]]:
                wanted = told(expr, kinds, answers)
                run = CodeRun(code, kinds, answers)
                self.assertEqual((run.events, run.outcome), wanted)
                self.assertEqual(run_code(code, kinds, answers), wanted)
        return code

    def test_small_ones(self):
        keep = [NAME, ("jump_keep", "false", 3), ("name", "b")]
        cases = [
            (A, [NAME]), (NONE, [NONE]), (TRUE, [TRUE]), (FALSE, [FALSE]), (("not", A), [NAME, ("not",)]),
            (("isnone", A), [NAME, ("isnone",)]), (call("f"), [("call", "f", 0)]), (("and", A, B), keep),
            (call("f", A, B), [NAME, ("name", "b"), ("call", "f", 2)]),
            (compare(A, ("<", B)), [NAME, ("name", "b"), ("compare", "<")]),
        ]
        for expr, code in cases:
            self.assertEqual(self.check_call(compile_expression, expr), code)
            self.check_compiled(expr)

    def test_each_form(self):
        for expr in helper.small_expressions():
            self.check_compiled(expr)

    def test_chains(self):
        for text in ["a < b < c", "f() < a <= g() > b", "(a < b < c) and f()", "f(a < f() < g(), b)",
                     "(a < f() < b) == (b < c < a)", "not (f() < g() < h()) or a", "a == b != c == a != b",
                     "(f() < g() < a) ?? (a < b < c)", "(a if f() < g() < a else b) < c < a"]:
            self.check_compiled(read_expression(text))

    def test_jumps_behind_jumps(self):
        for text in ["a and b and c", "a or b or c", "(a and b) or c", "(a or b) and c", "(a ?? b) ?? c",
                     "a if b else c if a else b", "(a if b else c) if (b if a else c) else (c if b else a)",
                     "(a and b) if (b or c) else (a ?? c)", "((a and b) or c) ?? (a or none)",
                     "(a and b) ?? (b or c)", "(a ?? b) and (a ?? c)", "(a ?? b) or (b and c)"]:
            self.check_compiled(read_expression(text))

    def test_many(self):
        for expr in helper.some_expressions(61, 150, levels=5, places=3):
            self.check_compiled(expr)

    def test_at_the_bounds(self):
        for expr in [helper.most_parts(), helper.most_levels(), helper.most_variables(), helper.large_surveyable()]:
            self.check_call(compile_expression, expr)
            self.check_compiled(expr)
        self.check_call(compile_expression, helper.most_places())
        self.check_compiled(helper.most_places(), [dict.fromkeys("abcd", kind) for kind in KINDS])
        links = helper.joined([compare(A, ("<", B), ("<", A)), compare(B, ("<", A), (">", B), ("<", A), ("==", B))])
        self.check_compiled(links)
        choices = A
        for _ in range(11):
            choices = ("if", choices, B, C)
        self.check_compiled(choices)
        wide = helper.joined([("if", A, B, C)] * 8)
        self.check_compiled(wide)
        self.check_compiled(("not", helper.joined([("default", A, ("or", B, D))] * 6)))

    def test_wrong_expressions(self):
        for wrong in helper.bad_expressions():
            self.check_error(InvalidExpression, compile_expression, wrong)


def least_parting(code, expr):
    """What code_parting is to return, by going through all inputs."""
    names = sorted({*helper.names_in_code(code), *helper.names_in(expr)})
    most = max(helper.events_in_code(code), helper.places_in(expr))
    for kinds in helper.worlds(names):
        for answers in helper.answer_lists(most):
            run = CodeRun(code, kinds, answers)
            if (run.events, run.outcome) != told(expr, kinds, answers):
                return (kinds, answers)
    return None


class PartingTest(Case):
    def test_small_ones(self):
        keep = [NAME, ("jump_keep", "false", 3), ("name", "b")]
        self.assertIsNone(self.check_call(code_parting, keep, ("and", A, B)))
        self.assertEqual(self.check_call(code_parting, keep, ("or", A, B)), ({"a": "t", "b": "t"}, []))
        self.assertEqual(self.check_call(code_parting, keep, ("if", A, B, FALSE)), ({"a": "f", "b": "t"}, []))
        self.assertEqual(code_parting([("call", "f", 0)], call("g")), ({}, []))
        self.assertEqual(code_parting([("call", "f", 0), ("not",)], ("isnone", call("f"))), ({}, ["f"]))
        self.assertEqual(code_parting([("call", "f", 0)], ("and", call("f"), call("g"))), ({}, ["t"]))

    def test_different_variables(self):
        self.assertEqual(self.check_call(code_parting, [NAME], B), ({"a": "t", "b": "t"}, []))
        self.assertEqual(list(code_parting([("name", "c")], ("and", B, A))[0]), ["a", "b", "c"])
        dead = [NAME, ("jump", 3), ("name", "b")]
        self.assertIsNone(self.check_call(code_parting, dead, A))
        self.assertEqual(self.check_call(code_parting, dead, ("not", A)), ({"a": "t", "b": "t"}, []))
        self.assertIsNone(code_parting([NAME], ("if", ("and", B, FALSE), C, A)))
        self.assertEqual(code_parting([NAME], ("if", ("or", C, B), A, TRUE)), ({"a": "t", "b": "f", "c": "f"}, []))

    def test_the_least_input_of_all(self):
        source = random.Random(62)
        exprs = helper.some_expressions(62, 60, levels=4, names="ab", places=2)
        parted = 0
        for expr in exprs:
            code = compile_expression(expr)
            self.assertIsNone(code_parting(code, expr))
            for other in [source.choice(exprs), ("not", ("not", expr)), helper.replaced(expr, source.choice(
                    [path for path, _ in helper.walk(expr)]), NONE)]:
                self.assertEqual(code_parting(code, other), least_parting(code, other))
            changed = [*code, *source.choice([[("not",), ("not",)], [POP, NONE], [("isnone",)], [("copy",), POP]])]
            wanted = least_parting(changed, expr)
            parted += wanted is not None
            self.assertEqual(code_parting(changed, expr), wanted)
        self.assertGreater(parted, 20)

    def test_random_code(self):
        source = random.Random(63)
        exprs = helper.some_expressions(63, 40, levels=3, names="ab", places=2)
        for _ in range(150):
            code = helper.some_code(source, source.randint(3, 12), places=2)
            expr = source.choice(exprs)
            self.assertEqual(code_parting(code, expr), least_parting(code, expr))

    def test_errors_in_their_order(self):
        five = call("f", call("f", call("f", call("f", call("f")))))
        for code in bad_codes()[::4]:
            self.check_error(InvalidCode, code_parting, code, None)
            self.check_error(InvalidCode, code_parting, code, five)
        large = [("call", "f", 0), *[("call", "f", 1)] * 4]
        for wrong in helper.bad_expressions():
            self.check_error(InvalidExpression, code_parting, [NAME], wrong)
            self.check_error(InvalidExpression, code_parting, large, wrong)

    def test_at_each_bound_and_just_beyond(self):
        four = call("f", call("f", call("f", call("f"))))
        code = [("call", "f", 0), *[("call", "f", 1)] * 3]
        self.assertIsNone(self.check_call(code_parting, code, four))
        self.check_error(TooMany, code_parting, code, call("f", four))
        links = compare(A, ("<", A), ("<", A), ("<", A))
        self.check_error(TooMany, code_parting, code, ("and", links, ("and", call("f"), call("f"))))
        self.check_error(TooMany, code_parting, [*code, ("call", "f", 1)], four)
        self.check_error(TooMany, code_parting, [*code, NAME, ("compare", "<")], NONE)
        # Also where they cannot be come to.
        self.check_error(TooMany, code_parting, [*code, ("jump", 6), ("call", "f", 0)], four)
        self.assertIsNone(code_parting([*code, ("jump", 6), NAME], four))
        # Variables of both together.
        two = [NAME, ("name", "b"), POP]
        self.assertIsNone(self.check_call(code_parting, two, A))
        self.assertEqual(self.check_call(code_parting, two, C), ({"a": "t", "b": "t", "c": "t"}, []))
        self.check_error(TooMany, code_parting, two, ("and", C, D))
        self.check_error(TooMany, code_parting, [*two, ("name", "c"), POP], D)
        self.check_error(TooMany, code_parting, [NAME], helper.most_variables())
        dead = [NAME, ("jump", 4), ("name", "b"), ("name", "c")]
        self.assertIsNone(code_parting(dead, A))
        self.check_error(TooMany, code_parting, dead, ("if", TRUE, A, D))

    def test_large_ones(self):
        expr = helper.large_surveyable()
        code = compile_expression(expr)
        self.assertIsNone(self.check_call(code_parting, code, expr))
        wanted = ({"a": "f", "b": "f", "c": "n"}, [])
        self.assertEqual(self.check_call(code_parting, code, helper.large_surveyable(("isnone", B))), wanted)
        long = [("call", "f", 0), *[("call", "f", 1)] * 3, *[("not",)] * 100, NAME, ("name", "b"), ("name", "c")]
        long = [*long, POP, POP, POP]
        slow = call("f", call("f", call("f", call("f"))))
        self.assertIsNone(self.check_call(code_parting, long, ("not", ("not", slow))))


class ThreadedTest(Case):
    def check_threaded(self, code, most=3):
        found = threaded(code)
        self.assertIsNone(check_code(found))
        self.assertEqual(helper.idle_jumps(found), [])
        self.assertNotIn(None, helper.depths_in(found))
        self.assertLessEqual(len(found), len(code))
        if not helper.idle_jumps(code) and None not in helper.depths_in(code):
            self.assertEqual(found, code)
        for kinds, answers in inputs(code, most):
            one, other = CodeRun(code, kinds, answers), CodeRun(found, kinds, answers)
            self.assertEqual((other.events, other.outcome), (one.events, one.outcome))
            self.assertLessEqual(other.steps, one.steps)
        self.assertEqual(threaded(found), found)
        return found

    def test_a_jump_to_the_next_instruction(self):
        self.assertEqual(self.check_call(threaded, [NAME, ("jump", 2), ("not",)]), [NAME, ("not",)])
        self.assertEqual(self.check_threaded([("jump", 1), NAME, ("jump", 3)]), [NAME])
        self.assertEqual(self.check_threaded([("jump", 1), ("jump", 2), ("jump", 3), NAME]), [NAME])
        # A jump that becomes one, as nothing in between can be come to.
        self.assertEqual(self.check_threaded([NAME, ("jump", 3), POP, ("not",)]), [NAME, ("not",)])

    def test_a_jump_pop_to_the_next_instruction_stays(self):
        for test in TESTS:
            code = [NAME, NAME, ("jump_pop", test, 3)]
            self.assertEqual(self.check_threaded(code), code)

    def test_a_target_that_is_a_jump(self):
        for test in TESTS:
            code = [NAME, ("jump_pop", test, 4), NAME, ("jump", 7), ("jump", 6), NONE, TRUE]
            self.assertEqual(self.check_threaded(code), [NAME, ("jump_pop", test, 4), NAME, ("jump", 5), TRUE])
            code = [NAME, ("jump_keep", test, 4), NAME, ("jump", 6), ("jump", 7), NONE, ("not",)]
            self.assertEqual(self.check_threaded(code), [NAME, ("jump_keep", test, 4), NAME, ("not",)])
        self.assertEqual(self.check_threaded([("jump", 2), NAME, ("jump", 4), NAME, TRUE]), [TRUE])

    def test_jumps_to_jumps_to_jumps(self):
        code = [NAME, ("jump_pop", "true", 4), NONE, ("jump", 9), ("jump", 6), POP, ("jump", 8), POP, TRUE]
        self.assertEqual(self.check_threaded(code), [NAME, ("jump_pop", "true", 4), NONE, ("jump", 5), TRUE])
        chain = [NAME] + [("jump", at + 2) for at in range(1, 100)] + [("not",), ("not",)]
        self.assertEqual(self.check_call(threaded, chain), self.check_threaded(chain))
        keep = [NAME] + [one for at in range(1, 117, 2) for one in (("jump_keep", "true", at + 2), NAME)] + [("not",)]
        wanted = [(*one[:2], 117) if one[0] == "jump_keep" else one for one in keep]
        self.assertEqual(self.check_threaded(keep), wanted)
        self.check_call(threaded, keep)

    def test_a_target_that_is_a_pop(self):
        for test in TESTS:
            code = [NAME, ("name", "b"), ("jump_keep", test, 4), NONE, POP, ("not",)]
            found = self.check_threaded(code)
            self.assertEqual(found, [NAME, ("name", "b"), ("jump_pop", test, 5), NONE, POP, ("not",)])

    def test_each_pair_of_tests(self):
        """A `jump_keep` to a jump with a test that is settled, or is not."""
        for one, other in itertools.product(TESTS, repeat=2):
            settled = other in SETTLED[one]
            holds = settled and (one == other or (one, other) in [("true", "given"), ("none", "false")])
            keep = [NAME, ("jump_keep", one, 3), ("name", "b"), ("jump_keep", other, 5), ("name", "c"), ("not",)]
            found = self.check_threaded(keep)
            wanted = (("jump_keep", one, 5) if holds else ("jump_pop", one, 4)) if settled else keep[1]
            self.assertEqual(found, [NAME, wanted, *keep[2:]])
            pop = [NAME, ("jump_keep", one, 3), ("name", "b"), ("jump_pop", other, 6), NONE, ("jump", 7), TRUE]
            found = self.check_threaded(pop)
            wanted = ("jump_pop", one, 6 if holds else 4) if settled else pop[1]
            self.assertEqual(found, [NAME, wanted, *pop[2:]])

    def test_a_jump_pop_settles_nothing(self):
        """Its value is gone, so only a `jump` at its target makes it idle."""
        for one, other in itertools.product(TESTS, repeat=2):
            code = [NAME, ("name", "b"), ("jump_pop", one, 3), ("jump_keep", other, 5), ("name", "c")]
            self.assertEqual(self.check_threaded(code), code)
        code = [NAME, ("name", "b"), NAME, ("jump_pop", "true", 5), ("not",), POP]
        self.assertEqual(self.check_threaded(code), code)

    def test_what_cannot_be_come_to(self):
        self.assertEqual(self.check_threaded([NAME, ("jump", 5), POP, POP, ("call", "f", 3)]), [NAME])
        self.assertEqual(self.check_threaded([("jump", 2), ("name", "b"), NAME]), [NAME])
        code = [NAME, ("jump_keep", "true", 4), NAME, ("jump", 6), ("jump_keep", "given", 6), NONE, ("not",)]
        self.assertEqual(self.check_threaded(code), [NAME, ("jump_keep", "true", 3), NAME, ("not",)])

    def test_code_without_idle_jumps_stays(self):
        for expr in [*list(helper.small_expressions())[::3], *helper.some_expressions(64, 60, levels=5, places=3)]:
            code = compile_expression(expr)
            self.assertEqual(self.check_call(threaded, code), code)

    def test_many(self):
        source = random.Random(65)
        shorter = 0
        for _ in range(500):
            code = helper.some_code(source, source.randint(3, 14), places=2)
            shorter += len(self.check_threaded(code)) < len(code)
        self.assertGreater(shorter, 100)

    def test_right_codes(self):
        for code in right_codes():
            self.check_threaded(code, 1)

    def test_wrong_code(self):
        for code in bad_codes():
            self.check_error(InvalidCode, threaded, code)


class StepsTest(Case):
    def test_the_program_counts_as_many_steps(self):
        source = random.Random(66)
        for _ in range(50):
            code = helper.some_code(source, source.randint(3, 12), places=2)
            found = threaded(code)
            for kinds, answers in inputs(code, 2):
                self.assertLessEqual(count_steps(found, kinds, answers), count_steps(code, kinds, answers))


if __name__ == "__main__":
    unittest.main()
