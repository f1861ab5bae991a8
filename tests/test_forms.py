"""Promises [11], [12], [12a] and the third guarantee of [3]: the one form, worlds and mergings."""

import itertools
import unittest

import helper
from helper import A, B, C, Case, KINDS, NONE, call, compare, obj, told
from keptops.errors import InvalidExpression, InvalidNumber, TooMany
from keptops.forms import count_worlds, form, matters, mergings, nth_world, trees
from keptops.texts import read_expression
from keptops.trees import call_tree, parting

F = call("f")
NONE_TREE = ("done", NONE)
A_TREE, B_TREE = ("done", obj("name", "a")), ("done", obj("name", "b"))


def samples():
    small = [expr for expr in helper.small_expressions() if helper.surveyable(expr)]
    return [*small[::6], *helper.some_expressions(20, 50, levels=4)]


def splits(found):
    """The names of all splits in a form."""
    if found[0] == "tree":
        return set()
    return {found[1]}.union(*[splits(below) for below in found[2]])


def tree_behind(found, kinds):
    """The tree to which a form leads with these kinds."""
    while found[0] == "split":
        found = found[2][KINDS.index(kinds[found[1]])]
    return found[1]


def too_many():
    """Expressions that are not surveyable."""
    links = compare(A, ("<", A), ("<", A), ("<", A), ("<", A))
    calls = call("f", call("f", call("f", call("f", F))))
    return [helper.most_variables(), helper.most_places(), ("and", F, links), calls]


class FormTest(Case):
    def test_small_ones(self):
        self.assertEqual(self.check_call(form, NONE), ("tree", NONE_TREE))
        split = ("split", "a", (("tree", A_TREE), ("tree", A_TREE), ("tree", NONE_TREE)))
        self.assertEqual(self.check_call(form, A), split)
        self.assertEqual(form(read_expression("a or none if b else a or none")), form(read_expression("a or none")))
        tree = ("ask", ("f", ()), (("done", obj("event", 0)), ("done", obj("event", 0)), NONE_TREE))
        self.assertEqual(self.check_call(form, F), ("tree", tree))
        b_split = ("split", "b", (("tree", B_TREE), ("tree", B_TREE), ("tree", NONE_TREE)))
        self.assertEqual(form(("and", A, B)), ("split", "a", (b_split, ("tree", A_TREE), ("tree", NONE_TREE))))
        self.assertEqual(form(("and", B, ("not", B))), form(("if", B, ("false",), B)))

    def test_splits_come_in_the_order_of_the_names(self):
        found = form(("and", C, ("or", B, A)))
        self.assertEqual(found[1], "a")
        self.assertEqual({below[1] for below in found[2]}, {"b"})

    def test_a_form_tells_the_tree_of_each_world(self):
        for expr in samples():
            found = form(expr)
            for kinds in helper.worlds(helper.names_in(expr)):
                self.assertEqual(tree_behind(found, kinds), call_tree(expr, kinds))

    def test_no_split_is_idle_and_all_stand_in_order(self):
        for expr in samples():
            self.check_splits(form(expr), "")

    def check_splits(self, found, ahead):
        if found[0] == "tree":
            return self.assertEqual(len(found), 2)
        word, name, below = found
        self.assertEqual(word, "split")
        self.assertLess(ahead, name)
        self.assertFalse(below[0] == below[1] == below[2])
        for part in below:
            self.check_splits(part, name)

    def test_forms_are_equal_just_if_nothing_parts(self):
        exprs = samples()
        pairs = [*itertools.combinations(exprs[:40], 2), *zip(exprs, exprs[1:])]
        for expr in exprs:
            others = [("if", A, expr, expr), ("and", expr, expr), ("or", ("false",), expr), ("not", ("not", expr))]
            pairs += [(expr, other) for other in others if helper.surveyable(other)]
        alike = [parting(one, other) is None for one, other in pairs]
        self.assertEqual([form(one) == form(other) for one, other in pairs], alike)
        self.assertGreater(alike.count(True), 100)
        self.assertGreater(alike.count(False), 100)

    def test_the_same_call_twice_is_not_once(self):
        self.assertNotEqual(form(("and", F, F)), form(F))


class MattersTest(Case):
    def test_small_ones(self):
        self.assertEqual(self.check_call(matters, NONE), {})
        self.assertEqual(self.check_call(matters, F), {})
        self.assertEqual(list(self.check_call(matters, ("if", B, A, A))), ["a"])
        self.assertEqual(matters(("and", ("false",), A)), {})
        self.assertEqual(sorted(matters(("default", A, B))), ["a", "b"])

    def test_each_variable_that_stands_in_the_form_and_no_other(self):
        for expr in samples():
            found = self.check_call(matters, expr)
            self.assertEqual(set(found), splits(form(expr)))
            for name, (kinds, kind) in found.items():
                self.assertEqual(sorted(kinds), helper.names_in(expr))
                self.assertIn(kind, KINDS)
                self.assertNotEqual(kind, kinds[name])
                self.assertNotEqual(call_tree(expr, kinds), call_tree(expr, {**kinds, name: kind}))


class WorldsTest(Case):
    def test_small_ones(self):
        self.assertEqual(self.check_call(count_worlds, A, A_TREE), 2)
        self.assertEqual(self.check_call(nth_world, A, A_TREE, 0), {"a": "t"})
        self.assertEqual(self.check_call(nth_world, A, A_TREE, 1), {"a": "f"})
        self.assertEqual(self.check_call(nth_world, A, NONE_TREE, 0), {"a": "n"})
        self.assertEqual(self.check_call(count_worlds, NONE, NONE_TREE), 1)
        self.assertEqual(self.check_call(nth_world, NONE, NONE_TREE, 0), {})
        self.assertEqual(self.check_call(trees, A), [A_TREE, NONE_TREE])
        self.assertEqual(trees(("isnone", A)), [("done", ("false",)), ("done", ("true",))])
        self.assertEqual(trees(("default", A, B)), [A_TREE, B_TREE, NONE_TREE])
        self.assertEqual(count_worlds(("default", A, B), A_TREE), 6)

    def test_all_worlds_in_order(self):
        for expr in samples():
            worlds = [(kinds, call_tree(expr, kinds)) for kinds in helper.worlds(helper.names_in(expr))]
            found = self.check_call(trees, expr)
            firsts = [at for at, (_, tree) in enumerate(worlds) if tree not in [old for _, old in worlds[:at]]]
            self.assertEqual(found, [worlds[at][1] for at in firsts])
            self.assertEqual(sum(count_worlds(expr, tree) for tree in found), len(worlds))
            for tree in found[:3]:
                behind = [kinds for kinds, other in worlds if other == tree]
                self.assertEqual(count_worlds(expr, tree), len(behind))
                for n, kinds in enumerate(behind):
                    self.assertEqual(nth_world(expr, tree, n), kinds)
                for n in (-1, len(behind), len(behind) + 10 ** 29):
                    self.check_error(InvalidNumber, nth_world, expr, tree, n)

    def test_values_that_are_no_trees(self):
        values = [*helper.no_values(), ["done", NONE], ("done", ["none"]), ("done",), ("done", NONE, NONE)]
        values += [("Done", NONE), ("done", obj("name", "c")), ("ask", ("f", ()), (NONE_TREE,) * 3), form(A)]
        for value in values:
            for expr in (A, NONE, F, ("and", A, B)):
                expected = 1 if expr == NONE and value == NONE_TREE else 0
                self.assertEqual(self.check_call(count_worlds, expr, value), expected)
                self.check_error(InvalidNumber, nth_world, expr, value, 0)
                self.check_error(InvalidNumber, nth_world, expr, value, None)

    def test_values_equal_to_a_tree_count_as_the_tree(self):
        tree = ("ask", ("f", ()), (("done", obj("event", False)), ("done", obj("event", 0)), NONE_TREE))
        self.assertEqual(tree, call_tree(F, {}))
        self.assertEqual(count_worlds(F, tree), 1)

    def test_wrong_numbers(self):
        wrong = [value for value in helper.no_values() if not (type(value) is int and 0 <= value < 2)]
        for n in [*wrong, True, False, 2, -1, -2, "0", (0,), [0]]:
            self.check_error(InvalidNumber, nth_world, A, A_TREE, n)

    def test_one_answer_is_not_shared(self):
        first = nth_world(A, A_TREE, 0)
        first["a"] = "changed"
        self.assertEqual(nth_world(A, A_TREE, 0), {"a": "t"})


def partitions(names):
    """All mergings, each as a tuple of groups in order."""
    if not names:
        return [()]
    first, *rest = names
    found = []
    for many in range(len(rest) + 1):
        for others in itertools.combinations(rest, many):
            left = [name for name in rest if name not in others]
            found += [tuple(sorted([(first, *others), *groups])) for groups in partitions(left)]
    return found


def renamed(value, first):
    """A value of evaluate with the sources told by the first names of the groups."""
    match value:
        case ("name", x):
            return ("name", first[x])
        case tuple() | list():
            return type(value)(renamed(part, first) for part in value)
    return value


def alike_under(merging, one, other):
    """By going through all inputs."""
    first = {name: group[0] for group in merging for name in group}
    most = max(helper.places_in(one), helper.places_in(other))
    for kinds in helper.worlds(helper.names_in(one, other)):
        if all(kinds[name] == kinds[first[name]] for name in first):
            for answers in helper.answer_lists(most):
                if renamed(told(one, kinds, answers), first) != renamed(told(other, kinds, answers), first):
                    return False
    return True


def least_mergings(one, other):
    right = [merging for merging in partitions(helper.names_in(one, other)) if alike_under(merging, one, other)]
    return sorted(
        merging for merging in right
        if not any(finer != merging and all(any(set(group) <= set(whole) for whole in merging) for group in finer)
                   for finer in right)
    )


class MergingsTest(Case):
    def test_the_document(self):
        self.assertEqual(self.check_call(mergings, call("f", A, B), call("f", B, A)), [(("a", "b"),)])
        self.assertEqual(self.check_call(mergings, A, NONE), [])

    def test_without_variables(self):
        self.assertEqual(self.check_call(mergings, F, F), [()])
        self.assertEqual(mergings(NONE, ("and", NONE, F)), [()])
        self.assertEqual(mergings(NONE, F), [])

    def test_alike_expressions_have_a_group_for_each_variable(self):
        self.assertEqual(mergings(A, A), [(("a",),)])
        self.assertEqual(mergings(("and", B, A), ("if", B, A, B)), [(("a",), ("b",))])
        self.assertEqual(mergings(A, ("if", ("and", C, B), A, A)), [(("a",), ("b",), ("c",))])

    def test_several_mergings_ascending(self):
        one, other = call("f", A, B, C), call("f", B, A, C)
        self.assertEqual(self.check_call(mergings, one, other), [(("a", "b"), ("c",))])
        self.assertEqual(mergings(call("f", A, B, C), call("f", B, C, A)), [(("a", "b", "c"),)])
        self.assertEqual(mergings(call("f", A, C), call("f", C, A)), [(("a", "c"),)])
        self.assertEqual(mergings(call("f", A, B, C), call("f", A, C, B)), [(("a",), ("b", "c"))])
        self.assertEqual(mergings(call("f", A, B, C), call("f", C, B, A)), [(("a", "c"), ("b",))])
        # What is called with b or c in one is called with a in the other, if a is the true one of them.
        found = self.check_call(mergings, ("or", ("and", A, B), C), ("or", ("and", B, A), C))
        self.assertEqual(found, [(("a", "b"), ("c",))])
        both = mergings(read_expression("a and b and c"), read_expression("b and a and c"))
        self.assertEqual(both, [(("a", "b"), ("c",))])

    def test_more_than_one_finest(self):
        one = read_expression("a and not b and c")
        other = read_expression("b and not b and a or a and not b and c")
        for first, second in [(one, other), (other, one)]:
            self.assertEqual(mergings(first, second), least_mergings(first, second))
        one, other = read_expression("a and not a or f(b, c)"), read_expression("b and not c or f(c, b)")
        self.assertEqual(mergings(one, other), least_mergings(one, other))
        pairs = [("f(a if b else c)", "f(a)"), ("f(a) if b else f(c)", "f(a) if c else f(c)"), ("a and b", "a and c")]
        pairs += [("(a and not b) or (b and not c) or (c and not a) or none", "none")]
        pairs += [("a is none or b", "b is none or c")]
        for one, other in pairs:
            one, other = read_expression(one), read_expression(other)
            self.assertEqual(mergings(one, other), least_mergings(one, other))
        self.assertTrue(any(len(mergings(read_expression(one), read_expression(other))) > 1 for one, other in pairs))

    def test_all_mergings_of_many(self):
        exprs = helper.some_expressions(21, 120, levels=3, names="abc", places=1)
        for one, other in zip(exprs, exprs[1:]):
            self.assertEqual(mergings(one, other), least_mergings(one, other))
        for expr in exprs[:40]:
            for there, here in [(A, B), (B, C), (C, A)]:
                other = expr
                for path, part in helper.walk(expr):
                    if part == there:
                        other = helper.replaced(other, path, here)
                self.assertEqual(mergings(expr, other), least_mergings(expr, other))


class ErrorsTest(Case):
    def test_wrong_expressions_come_first(self):
        for wrong in helper.bad_expressions():
            for function in (form, matters, trees):
                self.check_error(InvalidExpression, function, wrong)
            self.check_error(InvalidExpression, count_worlds, wrong, None)
            self.check_error(InvalidExpression, nth_world, wrong, None, None)
            self.check_error(InvalidExpression, mergings, wrong, helper.most_variables())
            self.check_error(InvalidExpression, mergings, helper.most_variables(), wrong)

    def test_too_many(self):
        for expr in too_many():
            for function in (form, matters, trees):
                self.check_error(TooMany, function, expr)
            self.check_error(TooMany, count_worlds, expr, None)
            self.check_error(TooMany, nth_world, expr, None, None)
            self.check_error(TooMany, mergings, expr, NONE)
            self.check_error(TooMany, mergings, NONE, expr)
        self.check_error(TooMany, mergings, ("and", A, B), ("and", C, ("name", "d")))

    def test_at_the_bounds(self):
        expr = helper.large_surveyable()
        for function in (form, matters, trees):
            self.check_call(function, expr)
        for tree in trees(expr):
            self.check_call(count_worlds, expr, tree)
            self.check_call(nth_world, expr, tree, 0)
        self.assertEqual(self.check_call(mergings, expr, expr), [(("a",), ("b",), ("c",))])
        self.check_call(mergings, expr, helper.large_surveyable(("isnone", B)))


if __name__ == "__main__":
    unittest.main()
