"""Promise [30]: expressions as values."""

import itertools
import types
import unittest

import helper
from helper import A, ANSWERS, B, C, Case, FALSE, NONE, SIGNS, TRUE, call, compare, nested
from keptops.errors import InvalidExpression, InvalidPath, InvalidText, InvalidWorld, NotPure, TooMany
from keptops.evaluation import evaluate
from keptops.forms import form
from keptops.texts import expression_text, read_expression
from keptops.trees import nth_run
from keptops.values import Expr

F, G = call("f"), call("g")
CONSTANTS = [(None, NONE), (True, TRUE), (False, FALSE)]


def some(*texts):
    return [Expr.read(text) for text in texts]


class ValuesCase(Case):
    def check_data(self, value, data):
        self.assertIs(type(value), Expr)
        self.assertEqual(value.data, data)

    def check_binary(self, word, function):
        """A function of an expression and an operand, which may be an expression or stand for a constant."""
        for one, other in itertools.product(helper.some_expressions(301, 4, names="ab", places=2), repeat=2):
            first, second = Expr(one), Expr(other)
            self.check_data(function(first, second), (word, one, other))
            self.check_data(function(first, first), (word, one, one))
            self.assertEqual((first.data, second.data), (one, other))
        for value, data in CONSTANTS:
            self.check_data(function(Expr(A), value), (word, A, data))


class BuildingTest(ValuesCase):
    def test_from_data(self):
        for expr in [*helper.small_expressions(), helper.most_parts(), helper.most_levels(), helper.most_places()]:
            self.check_data(Expr(expr), expr)
            self.assertEqual(Expr(data=expr).data, expr)

    def test_wrong_data(self):
        for wrong in helper.bad_expressions():
            self.check_error(InvalidExpression, Expr, wrong)
        self.check_error(InvalidExpression, Expr, "a and b")
        with self.assertRaises(InvalidExpression):
            Expr(Expr(A))

    def test_read(self):
        for text in ["a", " a and b or not f( a )", "f() < g() < h()", "a if b else c ?? none", "((true))"]:
            self.check_data(Expr.read(text), read_expression(text))
            self.check_data(Expr(A).read(text), read_expression(text))
        for text, index in [("", 0), ("a and", 5), ("a b", 2), ("f(a", 3), ("and", 0), ("a\tb", 1), (None, 0), (7, 0),
                            (["a"], 0), ("A", 0), (A, 0), ("a" * 9, 0)]:
            self.check_error(InvalidText, Expr.read, text, index=index)
        for text in [" and ".join(["a"] * 21), "f(a, a, a, a)", "a or b or c or d or e", "not " * 12 + "a"]:
            self.check_error(InvalidExpression, Expr.read, text)

    def test_variable(self):
        for x in ["a", "z", "abcdefgh", "name", "data", "kinds"]:
            self.check_data(Expr.variable(x), ("name", x))
            self.check_data(Expr(B).variable(x), ("name", x))
        wrong = [value for value in helper.no_values() if value != "a"]
        for x in [*wrong, "", "A", "a b", "abcdefghi", "a1", *helper.BARRED, ("a",)]:
            self.check_error(InvalidExpression, Expr.variable, x)

    def test_constant(self):
        for value, data in CONSTANTS:
            self.check_data(Expr.constant(value), data)
            self.check_data(Expr(A).constant(value), data)

    def test_call(self):
        self.check_data(Expr.call("f"), F)
        self.check_data(Expr.call("f", Expr(A)), call("f", A))
        self.check_data(Expr.call("f", Expr(G), None, True), call("f", G, NONE, TRUE))
        self.check_data(Expr(A).call("abcdefgh", False), call("abcdefgh", FALSE))
        for f in ["", "F", "f1", "abcdefghi", *helper.BARRED, None, True, 0, ("f",), ["f"]]:
            self.check_error(InvalidExpression, Expr.call, f)
        with self.assertRaises(InvalidExpression):
            Expr.call("f", None, None, None, None)


class OperatorsTest(ValuesCase):
    def test_and_and_or(self):
        self.check_binary("and", lambda one, other: one & other)
        self.check_binary("or", lambda one, other: one | other)
        for value, data in CONSTANTS:
            self.check_data(value & Expr(A), ("and", data, A))
            self.check_data(value | Expr(A), ("or", data, A))

    def test_in_place(self):
        """The variable has a new object then."""
        for value, data in [*CONSTANTS, (Expr(B), B)]:
            a = kept = Expr(A)
            a &= value
            self.check_data(a, ("and", A, data))
            a |= value
            self.check_data(a, ("or", ("and", A, data), data))
            self.check_data(kept, A)
        for value, data in CONSTANTS:
            other = value
            other &= Expr(A)
            self.check_data(other, ("and", data, A))
            other = value
            other |= Expr(A)
            self.check_data(other, ("or", data, A))

    def test_not(self):
        self.check_data(~Expr(A), ("not", A))
        self.check_data(~~Expr(F), ("not", ("not", F)))

    def test_choose(self):
        a, b, c = some("a", "b", "f(c)")
        self.check_data(a.choose(b, c), ("if", A, B, call("f", C)))
        self.check_data(a.choose(yes=b, no=c), a.choose(no=c, yes=b).data)
        for (one, first), (other, second) in itertools.product(CONSTANTS, repeat=2):
            self.check_data(a.choose(one, other), ("if", A, first, second))
        self.check_data(a.choose(None, b), ("if", A, NONE, B))

    def test_default_and_is_none(self):
        self.check_binary("default", lambda one, other: one.default(other))
        self.check_data(Expr(A).is_none(), ("isnone", A))
        self.check_data(Expr(F).is_none().is_none(), ("isnone", ("isnone", F)))

    def test_compare(self):
        a, b = some("a", "b")
        for sign in SIGNS:
            self.check_data(a.compare((sign, b)), compare(A, (sign, B)))
            for value, data in CONSTANTS:
                self.check_data(a.compare((sign, value), ("<", a)), compare(A, (sign, data), ("<", A)))
        self.check_data(a.compare(*[("<", b)] * 4), compare(A, *[("<", B)] * 4))

    def test_wrong_comparisons(self):
        a, b = some("a", "b")
        signs = ["", "=", "<>", "is", "and", "??", " <", None, 0, True, ("<",), ["<"], {}]
        wrong = [(), (("<", b),) * 5, (("<", b), ("=", b)), (("", b), ("<", b))] + [((sign, b),) for sign in signs]
        for links in wrong:
            with self.assertRaises(InvalidExpression):
                a.compare(*links)

    def test_results_that_are_too_large(self):
        """Whatever number of an expression they exceed."""
        parts, levels, places = Expr(helper.most_parts()), Expr(helper.most_levels()), Expr(helper.most_places())
        four, five = Expr(helper.most_variables()), Expr(("name", "e"))
        for build in [lambda one, other: one & other, lambda one, other: other & one, lambda one, other: one | other,
                      lambda one, other: other | one, lambda one, other: one.default(other),
                      lambda one, other: one.choose(other, None), lambda one, other: Expr.call("f", None, other, one),
                      lambda one, other: other.compare(("<", one))]:
            for one, other in [(parts, Expr(A)), (levels, Expr(B)), (places, Expr(F)), (four, five)]:
                with self.assertRaises(InvalidExpression):
                    build(one, other)
        for build in [lambda one: ~one, lambda one: one.is_none(), lambda one: one & None, lambda one: False | one,
                      lambda one: one.choose(True, False), lambda one: Expr.call("f", one),
                      lambda one: one.compare(("<", None))]:
            for one in [parts, levels]:
                with self.assertRaises(InvalidExpression):
                    build(one)
        for build in [lambda one: Expr.call("f", one), lambda one: one.compare(("<", None))]:
            with self.assertRaises(InvalidExpression):
                build(places)
        self.assertEqual([(~four).variables, (four & Expr(A)).variables], [tuple("abcd")] * 2)


class PropertiesTest(ValuesCase):
    def test_text_variables_and_pure(self):
        for expr in [*helper.small_expressions(), *helper.some_expressions(302, 200)]:
            value = Expr(expr)
            self.assertEqual(value.text, expression_text(expr))
            self.assertEqual(value.variables, tuple(helper.names_in(expr)))
            self.assertIs(value.pure, helper.places_in(expr) == 0)
            self.assertEqual(Expr.read(value.text), value)

    def test_they_are_not_assigned(self):
        value = Expr(A)
        for name in ["data", "text", "variables", "pure"]:
            with self.assertRaises(AttributeError):
                setattr(value, name, B)
        self.check_data(value, A)

    def test_length(self):
        for expr in [*helper.small_expressions(), helper.most_parts()]:
            self.assertEqual(len(Expr(expr)), sum(1 for _ in helper.walk(expr)))
        self.assertTrue(Expr(NONE))


class EqualityTest(ValuesCase):
    def test_equal_and_other_data(self):
        values = helper.some_expressions(303, 30) + [A, NONE, F]
        for at, one in enumerate(values):
            for number, other in enumerate(values):
                self.assertIs(Expr(one) == Expr(other), one == other)
                self.assertIs(Expr(one) != Expr(other), one != other)
        self.assertIs(Expr(A) & None == Expr(("and", A, NONE)), True)
        # Not what is alike.
        self.assertIs(Expr.read("not not not a") == Expr.read("not a"), False)

    def test_nothing_else_is_equal(self):
        for other in [*helper.no_values(), A, list(A), "a", NONE, FALSE]:
            for value in [Expr(A), Expr(NONE), Expr(FALSE)]:
                self.assertIs(value == other, False)
                self.assertIs(other == value, False)
                self.assertIs(value != other, True)

    def test_no_key_of_a_dict(self):
        with self.assertRaises(TypeError):
            {Expr(A): 1}


class PartsTest(ValuesCase):
    def test_items_by_each_path(self):
        for expr in [*helper.some_expressions(304, 60), helper.most_parts(), helper.most_levels()]:
            value = Expr(expr)
            for path, part in helper.walk(expr):
                self.check_data(value[path], part)
                self.assertIs(value[path] in value, True)
            self.assertEqual(value[()], value)

    def test_no_paths(self):
        value = Expr.read("f(a, b) < c < d")
        for path in [*helper.no_values(), 0, (3,), (0, 2), (1, 0), (-1,), (True,), (0, False), [0], (0, 0, 0), ("0",),
                     (None,), ((0,),), slice(None), "0", (10 ** 29,)]:
            with self.assertRaises(InvalidPath):
                value[path]

    def test_what_is_in_it(self):
        value = Expr.read("f(a, b or none) < c")
        for text in ["a", "b", "c", "none", "b or none", "f(a, b or none)", "f(a, b or none) < c"]:
            self.assertIs(Expr.read(text) in value, True)
        for text in ["d", "true", "a or none", "f(a)", "f()", "f(a, b)", "c < c", "f(a, b or none) <= c"]:
            self.assertIs(Expr.read(text) in value, False)
        for other in [*helper.no_values(), A, NONE, "a", value.data, "f", ("<", C), (0,), 0]:
            self.assertIs(other in value, False)

    def test_it_is_not_iterated_over(self):
        for value in some("a", "a and b", "f(a)"):
            with self.assertRaises(TypeError):
                list(value)


class DecidingTest(ValuesCase):
    def test_alike_and_canonical(self):
        pairs = [("a and b or a", "a"), ("a and a", "a"), ("not not a", "a"), ("f(a)", "f(a)"),
            ("f(a) and f(a)", "f(a)"), ("a if a else b", "a or b"), ("a ?? b", "a or b"), ("none", "a and none and a"),
            ("a", "b"), ("f()", "g()")]
        for one, other in pairs:
            first, second = some(one, other)
            wanted = helper.least_parting(first.data, second.data, helper.equal) is None
            self.assertIs(first.alike(second), wanted)
            self.assertIs(second.alike(first), wanted)
            self.assertIs(first.alike(other=first), True)
            if wanted and first.variables == second.variables:
                self.assertEqual(first.canonical(), second.canonical())
            self.assertEqual(self.check_call(first.canonical), form(first.data))
        for expr in helper.some_expressions(305, 40, names="ab", places=3):
            self.assertEqual(Expr(expr).canonical(), form(expr))

    def test_implies(self):
        exprs = helper.some_expressions(306, 60, names="abc", places=0)
        for one, other in zip(exprs, exprs[1:]):
            wanted = all(true(other, kinds) for kinds in helper.worlds(helper.names_in(one, other)) if true(one, kinds))
            self.assertIs(Expr(one).implies(Expr(other)), wanted)
        for one, other, wanted in [("a and b", "a", True), ("a", "a and b", False), ("a", "a or b", True),
                                   ("false", "none", True), ("true", "a", False), ("a is none", "not a", True),
                                   ("not a", "a is none", False), ("b", "true", True), ("not true", "a", True),
                                   ("a", "not not a", True), ("none", "c", True)]:
            first, second = some(one, other)
            self.assertIs(first.implies(second), wanted)
            self.assertIs(first.implies(other=second), wanted)

    def test_implies_at_the_bounds(self):
        large = Expr(helper.joined([A, B, C, A] * 5))
        self.assertIs(self.check_call(large.implies, large), True)
        self.assertIs(self.check_call(large.implies, Expr(nested(10))), True)
        self.assertIs(self.check_call(large.implies, Expr(nested(11))), False)

    def test_too_many(self):
        four = Expr(helper.most_variables())
        events = Expr(helper.joined([F] * 5))
        two, three = some("a and d", "a and b and c")
        for function in [four.canonical, events.canonical]:
            self.check_error(TooMany, function)
        for one, other in [(four, four), (events, events), (four, Expr(A)), (Expr(A), four), (Expr(A), events),
                           (events, Expr(A)), (two, three)]:
            with self.assertRaises(TooMany):
                one.alike(other)
        for one, other in [(four, four), (four, Expr(A)), (Expr(A), four), (two, three)]:
            with self.assertRaises(TooMany):
                one.implies(other)

    def test_not_pure_comes_ahead_of_too_many(self):
        four = Expr(helper.most_variables())
        for impure in some("f()", "a < b", "a and f(b)", "false and f()"):
            for pure in [Expr(A), four, impure]:
                for one, other in [(impure, pure), (pure, impure)]:
                    with self.assertRaises(NotPure):
                        one.implies(other)
        wide = Expr(helper.joined([call("f", A, B, C), ("name", "d"), F, F, F, F]))
        with self.assertRaises(NotPure):
            wide.implies(four)


def true(expr, kinds):
    return helper.true_value(helper.told(expr, kinds, [])[1][1], kinds, [])


class CallsTest(ValuesCase):
    def test_lists_tuples_and_no_answers(self):
        for expr in helper.some_expressions(307, 60, names="ab", places=2):
            value = Expr(expr)
            for kinds in helper.worlds(["a", "b"])[::2]:
                self.assertEqual(value(kinds), evaluate(expr, kinds, []))
                self.assertEqual(value(kinds, ()), evaluate(expr, kinds, []))
                for answers in [["t"], ["t", "f"], ["x"], ["n", "t", "x"]]:
                    self.assertEqual(self.check_call(value, kinds, answers), evaluate(expr, kinds, answers))
                    self.assertEqual(self.check_call(value, kinds, tuple(answers)), evaluate(expr, kinds, answers))
                    self.assertEqual(value(answers=answers, kinds=kinds), evaluate(expr, kinds, answers))

    def test_wrong_worlds(self):
        value = Expr.read("a and f(b)")
        good = {"a": "f", "b": "t"}
        for kinds in [*helper.no_values(), {}, {"a": "t"}, {"a": "t", "b": "x"}, {"a": "t", "b": None}, [], "ab"]:
            self.check_error(InvalidWorld, value, kinds)
            self.check_error(InvalidWorld, value, kinds, ["t"])
        for answers in [*helper.no_values(), "t", {"t": 1}, ["q"], ("q",), ("t", None), ["t", ["t"]], ("tf",), {}]:
            self.check_error(InvalidWorld, value, good, answers)


class RunsTest(ValuesCase):
    def test_all_complete_runs_in_order(self):
        for expr in [*helper.some_expressions(308, 60, names="ab", places=3), A, NONE, helper.most_places()]:
            value = Expr(expr)
            kinds = {name: "ttn"[at % 3] for at, name in enumerate(helper.names_in(expr))}
            found = list(value.runs(**kinds))
            self.assertEqual(found, helper.runs_of(expr, kinds))
            self.assertTrue(all(type(run) is list for run in found))

    def test_lazily_and_each_a_new_list(self):
        value = Expr.read("f() and g(a) < a")
        runs = value.runs(a="t")
        self.assertIs(type(runs), types.GeneratorType)
        found = []
        for number, run in enumerate(runs):
            self.assertEqual(run, nth_run(value.data, {"a": "t"}, number))
            found.append(list(run))
            run.append("q")
        self.assertEqual(found, helper.runs_of(value.data, {"a": "t"}))
        self.assertEqual(list(value.runs(a="t")), found)
        one, other = value.runs(a="t"), value.runs(a="f")
        self.assertEqual([next(one), next(other), next(one)], [["t", "t", "t"], ["t", "t", "t"], ["t", "t", "f"]])

    def test_further_kinds_are_ignored(self):
        value = Expr.read("a or f(b)")
        wanted = list(value.runs(a="f", b="n"))
        self.assertEqual(wanted, [["t"], ["f"], ["n"], ["x"]])
        self.assertEqual(list(value.runs(b="n", a="f", c="q", kinds=None, data=[], answers=7, value=1)), wanted)
        self.assertEqual(list(Expr.read("kinds and f(data)").runs(kinds="t", data="f", a=3)), wanted)
        self.assertEqual(list(Expr(TRUE).runs(a="q")), [[]])

    def test_wrong_kinds_are_found_with_the_first_run(self):
        value = Expr.read("a or f(b)")
        for kinds in [{}, {"a": "t"}, {"b": "t"}, {"a": "t", "b": "x"}, {"a": None, "b": "t"}, {"a": "t", "b": ["t"]},
                      {"a": "tf", "b": "t"}, {"a": True, "b": "t"}, {"a": "T", "b": "t"}, {"a": {}, "b": "t"}]:
            runs = value.runs(**kinds)
            with self.assertRaises(InvalidWorld):
                next(runs)

    def test_as_many_as_can_be(self):
        value = Expr(helper.joined([call("f", A)] * 6)).choose(True, None)
        count = sum(1 for _ in value.runs(a="t"))
        self.assertEqual(count, len(helper.runs_of(value.data, {"a": "t"})))
        six = Expr.read("h(f(), g(), h(f(), g()))")
        found = list(six.runs())
        self.assertEqual(len(found), 1 + sum(3 ** many for many in range(1, 7)))
        self.assertEqual([found[0], found[-1], found[1]], [["t"] * 6, ["x"], ["t"] * 5 + ["f"]])
        self.assertTrue(set(itertools.chain(*found)) <= set(ANSWERS))


if __name__ == "__main__":
    unittest.main()
