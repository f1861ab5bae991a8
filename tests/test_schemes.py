"""Promises [15] to [17]: schemes, what is put for their letters, and their use."""

import itertools
import random
import unittest

import helper
from helper import A, B, C, Case, D, FALSE, NONE, TRUE, call, compare, nested
from keptops.errors import (
    InvalidExpression, InvalidParts, InvalidPath, InvalidScheme, InvalidSense, NoUse, OperandError, TooLarge,
)
from keptops.exprs import check_expression
from keptops.parts import part_of, paths
from keptops.schemes import breaking, check_chain, check_scheme, is_test, put, senses, use
from keptops.texts import read_expression
from keptops.trees import parting, parting_test

P, Q, R = call("p"), call("q"), call("r")
SENSES = ("value", "test", "pure", "pure test")
FOUR = call("f", call("f", call("f", P)))
FIVE = call("f", FOUR)


def scheme_of(left, right):
    return (read_expression(left), read_expression(right))


def letters_in(*exprs):
    return sorted({part[1] for expr in exprs for _, part in helper.walk(expr) if part[0] == "call" and not part[2]})


def put_in(expr, parts):
    """What put is to return, sizes aside."""
    for path, part in list(helper.walk(expr)):
        if part[0] == "call" and part[2] == () and part[1] in parts:
            expr = helper.replaced(expr, path, parts[part[1]])
    return expr


def least_breaking(scheme, sense):
    """What breaking is to return, by going through all inputs."""
    if "pure" in sense:
        scheme = [put_in(side, {letter: ("name", letter) for letter in letters_in(side)}) for side in scheme]
    return helper.least_parting(*scheme, helper.equal_truth if "test" in sense else helper.equal)


def too_large(expr):
    try:
        check_expression(expr)
    except InvalidExpression:
        return True
    return False


def bad_schemes():
    """Values that are no schemes, by each way in which they may fail to be one."""
    bad = [*helper.no_values(), (), (A,), (A, A, A), [A, A], {"a": A}, P, A]
    for wrong in helper.bad_expressions():
        bad += [(wrong, A), (A, wrong)]
    # A letter that is a variable, of its own side or of the other one.
    p = ("name", "p")
    bad += [(("and", P, p), A), (A, ("or", p, P)), (P, p), (p, P), (call("f", P), ("not", p))]
    # A fourth letter or variable.
    four = [(("and", A, B), ("and", C, D)), (helper.joined([A, B, C]), P), (helper.joined([P, Q, R]), A)]
    four += [(helper.joined([P, Q]), ("or", A, B)), (helper.joined([A, B, C, D]), NONE), (("and", P, Q), ("or", R, A))]
    four += [(helper.joined([P, Q]), ("or", R, call("s")))]
    bad += four + [(right, left) for left, right in four]
    # A fifth event place on a side.
    links = compare(A, ("<", A), ("<", A), ("<", A), ("<", A))
    five = [FIVE, ("and", links, P), ("and", links, call("f", A)), helper.joined([P] * 5), call("f", links)]
    bad += [(expr, A) for expr in five] + [(A, expr) for expr in five] + [(FIVE, FIVE)]
    return bad


EQUATIONS = [
    # Those that hold as value hold in all senses.
    ("(p() and q()) and r()", "p() and (q() and r())", SENSES),
    ("(p() or q()) or r()", "p() or (q() or r())", SENSES),
    ("(p() ?? q()) ?? r()", "p() ?? (q() ?? r())", SENSES),
    ("not (p() and q())", "not p() or not q()", SENSES),
    ("not (p() or q())", "not p() and not q()", SENSES),
    ("not not not p()", "not p()", SENSES), ("p() if true else q()", "p()", SENSES), ("none ?? p()", "p()", SENSES),
    ("q() if not p() else r()", "r() if p() else q()", SENSES), ("a and p()", "p() if a else a", SENSES),
    ("f(p()) if a else f(q())", "f(p() if a else q())", SENSES), ("p() ?? none", "p()", SENSES),
    ("p()", "p()", SENSES), ("a and a", "a", SENSES), ("f(p, p())", "f(p, p())", None),
    # Only the truth is the same.
    ("not not p()", "p()", ("test", "pure test")), ("p() and true", "p()", ("test", "pure test")),
    ("p() or false", "p()", ("test", "pure test")), ("p() or none", "p()", ("test", "pure test")),
    ("p() and q()", "q() if p() else none", ("test", "pure test")),
    ("p() or q()", "true if p() else q()", ("test", "pure test")), ("a or true", "true", ("test", "pure test")),
    # What is called twice, or no longer, or in another order.
    ("p() and p()", "p()", ("pure", "pure test")), ("p() or (p() and q())", "p()", ("pure", "pure test")),
    ("p() and q()", "q() if p() else p()", ("pure", "pure test")),
    ("p() ?? q()", "q() if p() is none else p()", ("pure", "pure test")),
    ("p() and none or none", "none", ("pure", "pure test")),
    ("p() if q() else p()", "p()", ("pure", "pure test")), ("f(p(), a)", "f((p() and p()), a)", ("pure", "pure test")),
    # Both.
    ("p() and q()", "q() and p()", ("pure test",)), ("p() or not p()", "true", ("pure test",)),
    ("p() or q()", "q() or p()", ("pure test",)), ("p() and not p()", "false", ("pure test",)),
    ("p() and (q() or r())", "p() and q() or p() and r()", ("pure", "pure test")),
    # In no sense.
    ("p()", "q()", ()), ("p()", "not p()", ()), ("f(p())", "f(not not p())", ()), ("p()", "f(p())", ()),
    ("p() ?? q()", "q() ?? p()", ()), ("f(p() and q())", "f(q() and p())", ()), ("p() is none", "not p()", ()),
    ("a", "true", ()), ("p() < q()", "q() > p()", ()), ("f(p())", "g(p())", ()),
]


class SchemeTest(Case):
    def test_schemes(self):
        right = [(A, A), (P, A), (NONE, P), (FOUR, FOUR), (helper.joined([P, Q, R]), helper.joined([R, Q, P]))]
        right += [(("and", A, P), ("or", Q, A)), (helper.joined([A, B]), helper.joined([C, A])), (NONE, TRUE)]
        right += [(helper.joined([P] * 4), compare(P, ("<", A), ("<", A), ("<", A))), (helper.large_surveyable(), A)]
        # A name that is a letter and the function of calls with operands; a function is no letter and no variable.
        right += [(call("p", P), P), (call("p", ("name", "q")), ("name", "q")), (call("a", A), A)]
        right += [(call("p", P, A, B), NONE), (("and", call("f", A), call("g", B)), call("h", C))]
        for scheme in right:
            self.assertIsNone(self.check_call(check_scheme, scheme))
            self.assertIsInstance(self.check_call(senses, scheme), tuple)
            self.assertIsNone(check_scheme((scheme[1], scheme[0])))

    def test_no_schemes(self):
        for scheme in bad_schemes():
            self.check_error(InvalidScheme, check_scheme, scheme)
            self.check_error(InvalidScheme, senses, scheme)
            self.check_error(InvalidScheme, breaking, scheme, "value")

    def test_it_comes_ahead_of_all_other_errors(self):
        for scheme in bad_schemes()[::7] + bad_schemes()[-20:]:
            self.check_error(InvalidScheme, breaking, scheme, None)
            self.check_error(InvalidScheme, use, scheme, False, None, None, False)
            self.check_error(InvalidScheme, use, scheme, True, A, (1,), True)


class SensesTest(Case):
    def test_the_document(self):
        scheme = scheme_of("p() and (p() or q())", "p()")
        self.assertEqual(self.check_call(senses, scheme), ("pure", "pure test"))
        self.assertEqual(self.check_call(breaking, scheme, "value"), ({}, ["t"]))

    def test_well_known_equations_turned_either_way(self):
        for left, right, wanted in EQUATIONS:
            if wanted is None:
                self.check_error(InvalidScheme, senses, scheme_of(left, right))
                continue
            for scheme in [scheme_of(left, right), scheme_of(right, left)]:
                self.assertEqual(self.check_call(senses, scheme), wanted, (left, right))
                for sense in SENSES:
                    found = self.check_call(breaking, scheme, sense)
                    self.assertEqual(found is None, sense in wanted)
                    self.assertEqual(found, least_breaking(scheme, sense))

    def test_the_least_input_of_all(self):
        exprs = helper.some_expressions(21, 60, levels=4, names="a", places=3)
        pairs = list(zip(exprs, exprs[1:]))
        for expr in exprs[:25]:
            pairs += [(expr, helper.replaced(expr, path, ("not", ("not", part)))) for path, part in helper.walk(expr)]
        many = 0
        for scheme in pairs:
            if too_large(scheme[1]) or len(letters_in(*scheme)) + len(helper.names_in(*scheme)) > 3:
                continue
            wanted = [least_breaking(scheme, sense) for sense in SENSES]
            self.assertEqual([breaking(scheme, sense) for sense in SENSES], wanted)
            self.assertEqual(senses(scheme), tuple(sense for sense, least in zip(SENSES, wanted) if least is None))
            many += 1
        self.assertGreater(many, 100)

    def test_letters_and_variables_in_what_is_told(self):
        scheme = (("and", B, P), ("and", P, B))
        self.assertEqual(self.check_call(breaking, scheme, "value"), ({"b": "t"}, ["t"]))
        self.assertEqual(breaking(scheme, "pure"), ({"b": "t", "p": "t"}, []))
        self.assertEqual(breaking((P, Q), "pure test"), ({"p": "t", "q": "f"}, []))
        self.assertEqual(breaking((call("p", P), call("p", A)), "pure"), ({"a": "t", "p": "t"}, []))
        self.assertEqual(list(breaking((("or", R, Q), A), "pure")[0]), ["a", "q", "r"])

    def test_wrong_senses(self):
        for sense in [*helper.no_values(), "Value", "values", "puretest", "pure  test", " value", "pure test ", "t",
                      ("value",), ["value"], SENSES, {"value": 1}, b"value"]:
            self.check_error(InvalidSense, breaking, (P, P), sense)
            self.check_error(InvalidSense, breaking, (P, Q), sense)

    def test_at_the_bounds(self):
        one = helper.large_surveyable()
        for sense in SENSES:
            self.assertIsNone(self.check_call(breaking, (one, one), sense))
            self.assertIsNotNone(self.check_call(breaking, (one, helper.large_surveyable(("isnone", B))), sense))
        self.assertEqual(self.check_call(senses, (one, one)), SENSES)


class PutTest(Case):
    def test_small_ones(self):
        self.assertEqual(self.check_call(put, P, {"p": A}), A)
        self.assertEqual(self.check_call(put, P, {}), P)
        self.assertEqual(put(("and", P, Q), {"p": A, "q": NONE}), ("and", A, NONE))
        self.assertEqual(put(("and", P, Q), {"p": A}), ("and", A, Q))
        self.assertEqual(put(compare(P, ("<", P), (">", Q)), {"p": A, "q": B}), compare(A, ("<", A), (">", B)))
        self.assertEqual(put(("if", P, Q, ("isnone", R)), {"r": P}), ("if", P, Q, ("isnone", P)))

    def test_all_at_once(self):
        self.assertEqual(put(("and", P, Q), {"p": Q, "q": P}), ("and", Q, P))
        self.assertEqual(put(P, {"p": ("not", P)}), ("not", P))
        self.assertEqual(put(call("f", P, Q), {"p": call("g", Q), "q": A}), call("f", call("g", Q), A))

    def test_neither_calls_with_operands_nor_variables(self):
        self.assertEqual(put(call("p", P), {"p": A}), call("p", A))
        self.assertEqual(put(call("p", A), {"p": B, "a": B}), call("p", A))
        self.assertEqual(put(("or", ("name", "p"), P), {"p": B}), ("or", ("name", "p"), B))

    def test_names_that_do_not_stand_there(self):
        self.assertEqual(put(A, {"p": B}), A)
        self.assertEqual(put(("not", P), {"q": helper.most_parts(), "p": A, "r": helper.most_places()}), ("not", A))

    def test_many(self):
        source = random.Random(22)
        exprs = helper.some_expressions(22, 150, levels=5, names="ab", places=3)
        pool = exprs + [helper.most_parts(), nested(10), helper.most_places(), helper.joined([A, B] * 9)] * 20
        large = 0
        for expr in exprs:
            for path, part in list(helper.walk(expr)):
                if part == B and helper.places_in(expr) < 6:
                    expr = helper.replaced(expr, path, source.choice([P, Q]))
            parts = {name: source.choice(pool) for name in source.sample("fgpq", source.randint(0, 4))}
            wanted = put_in(expr, parts)
            if too_large(wanted):
                large += 1
                self.check_error(TooLarge, put, expr, parts)
            else:
                self.assertEqual(self.check_call(put, expr, parts), wanted)
        self.assertTrue(20 < large < 130, large)

    def test_at_each_bound_and_just_beyond(self):
        cases = [
            (("not", helper.joined([A, B] * 9 + [A, P])), A, ("not", A)), (nested(11, P), A, ("not", A)),
            (helper.joined([A, B, C, D, P]), D, ("name", "z")), (helper.joined([P] * 6), call("f", A), call("f", P)),
            (("and", P, P), compare(A, ("<", A), ("<", A), ("<", A)), compare(A, *[("<", A)] * 4)),
        ]
        for expr, within, beyond in cases:
            self.assertEqual(self.check_call(put, expr, {"p": within}), put_in(expr, {"p": within}))
            self.check_error(TooLarge, put, expr, {"p": beyond})
        self.check_error(TooLarge, put, helper.joined([P] * 6), {"p": helper.most_places()})
        self.assertEqual(len(list(helper.walk(put(call("f", P, A), {"p": helper.joined([A, B] * 9)})))), 37)

    def test_no_parts(self):
        wrong = [*helper.no_values(), None, [], (), "p", [("p", A)], {"p": None}, {"P": A}, {"": A}, {"and": A}]
        wrong += [{"self": A}, {"p" * 9: A}, {0: A}, {None: A}, {("p",): A}, {True: A}, {"p1": A}]
        wrong += [{"p": A, "q": wrong} for wrong in helper.bad_expressions()[::5]]
        wrong += [{"z": helper.too_many_parts()}, {"z": helper.too_many_levels()}, {"z": helper.too_many_variables()}]
        for parts in wrong:
            if parts == {}:
                continue
            self.check_error(InvalidParts, put, P, parts)
        # Ahead of a result that would be too large.
        self.check_error(InvalidParts, put, ("and", P, P), {"p": helper.most_parts(), "z": 0})

    def test_wrong_expressions_come_first(self):
        for wrong in helper.bad_expressions():
            self.check_error(InvalidExpression, put, wrong, None)

    def test_what_a_scheme_tells_of_what_is_put_in_both_sides(self):
        """[16]: the results are alike, or alike as tests, by the sense."""
        pure = [A, NONE, FALSE, ("not", A), ("or", A, B), ("default", B, TRUE), ("isnone", A)]
        other = [call("f"), call("g", A), ("and", call("f"), A), compare(A, ("<", B)), ("default", call("g"), B)]
        many = 0
        for left, right, wanted in EQUATIONS:
            scheme = scheme_of(left, right)
            letters = letters_in(*scheme)
            for sense in wanted or ():
                wide = "pure" not in sense
                for choice in list(itertools.product(pure + other if wide else pure, repeat=len(letters)))[::9]:
                    parts = dict(zip(letters, choice))
                    one, two = [put(side, parts) for side in scheme]
                    if helper.surveyable(one) and helper.surveyable(two) and len(helper.names_in(one, two)) <= 3:
                        check = parting_test if "test" in sense else parting
                        self.assertIsNone(check(one, two), (left, right, parts))
                        many += 1
                if wide and len(letters) > 1:
                    one, two = [put(side, {letters[0]: call("g", A)}) for side in scheme]
                    self.assertIsNone((parting_test if "test" in sense else parting)(one, two))
        self.assertGreater(many, 500)


def test_position(expr, path, as_test):
    """What is_test is to return, one operand after the other."""
    if path == ():
        return as_test
    at, *rest = path
    match expr:
        case ("not", _):
            inner = True
        case ("if", *_):
            inner = True if at == 0 else as_test
        case ("and", *_) | ("or", *_):
            inner = as_test
        case ("default", *_):
            inner = as_test if at == 1 else False
        case _:
            inner = False
    return test_position(helper.below(expr)[at], tuple(rest), inner)


class IsTestTest(Case):
    def test_each_operand(self):
        cases = [
            (("not", A), [(True, True)]), (("isnone", A), [(False, False)]), (("and", A, B), [(False, True)] * 2),
            (("or", A, B), [(False, True)] * 2), (("default", A, B), [(False, False), (False, True)]),
            (("if", A, B, C), [(True, True), (False, True), (False, True)]),
            (call("f", A, B, C), [(False, False)] * 3), (compare(A, ("<", B), (">", C)), [(False, False)] * 3),
        ]
        for expr, wanted in cases:
            found = [(self.check_call(is_test, expr, (at,), False), is_test(expr, (at,), True))
                     for at in range(len(wanted))]
            self.assertEqual(found, wanted)
        for expr in [A, NONE, P, call("f", A), ("and", A, B)]:
            self.assertIs(is_test(expr, (), True), True)
            self.assertIs(is_test(expr, (), False), False)

    def test_every_path_step_by_step(self):
        for expr in [*helper.small_expressions(), *helper.some_expressions(23, 80, levels=6)]:
            for path, _ in helper.walk(expr):
                for as_test in (True, False):
                    self.assertIs(is_test(expr, path, as_test), test_position(expr, path, as_test))

    def test_two_contraries_in_a_test_position_change_nothing(self):
        many = 0
        for expr in helper.some_expressions(24, 120, levels=4, places=3):
            for path, part in helper.walk(expr):
                other = helper.replaced(expr, path, ("not", ("not", part)))
                if too_large(other):
                    continue
                for as_test in (True, False):
                    if is_test(expr, path, as_test):
                        self.assertIsNone((parting_test if as_test else parting)(expr, other))
                        many += 1
        self.assertGreater(many, 300)

    def test_errors(self):
        for wrong in helper.bad_expressions():
            self.check_error(InvalidExpression, is_test, wrong, None, True)
        for path in [*helper.no_values(), (1,), (-1,), (0, 1), [0], (True,), ("0",), (None,)]:
            for as_test in (True, False):
                self.check_error(InvalidPath, is_test, ("not", ("not", A)), path, as_test)


def used(scheme, backwards, expr, path, as_test):
    """What use is to return, or the error that it is to raise, for a path that is right."""
    part = part_of(expr, path)
    side, other = scheme[::-1] if backwards else scheme
    letters = letters_in(side)
    candidates = [below for _, below in helper.walk(part)]
    puts = [dict(zip(letters, choice)) for choice in itertools.product(candidates, repeat=len(letters))]
    puts = [parts for parts in puts if put_in(side, parts) == part]
    if not puts:
        return NoUse
    parts = puts[0]
    right = [sense for sense in SENSES if least_breaking(scheme, sense) is None]
    tests = test_position(expr, path, as_test)
    pure = set(letters_in(other)) <= set(letters) and all(not helper.places_in(part) for part in parts.values())
    allowed = {"value": True, "test": tests, "pure": pure, "pure test": tests and pure}
    if not any(allowed[sense] for sense in right):
        return NoUse
    result = helper.replaced(expr, path, put_in(other, parts))
    return TooLarge if too_large(result) else result


class UseTest(Case):
    def check_use(self, scheme, backwards, expr, path, as_test, wanted):
        if isinstance(wanted, type):
            self.check_error(wanted, use, scheme, backwards, expr, path, as_test)
        else:
            self.assertEqual(self.check_call(use, scheme, backwards, expr, path, as_test), wanted)

    def test_a_scheme_that_holds_as_value_is_right_everywhere(self):
        scheme = scheme_of("not (p() and q())", "not p() or not q()")
        expr = call("f", ("not", ("and", call("g", A), B)))
        wanted = call("f", ("or", ("not", call("g", A)), ("not", B)))
        for as_test in (True, False):
            self.check_use(scheme, False, expr, (0,), as_test, wanted)
            self.check_use(scheme, True, wanted, (0,), as_test, expr)
            self.check_use(scheme, False, expr, (), as_test, NoUse)
            self.check_use(scheme, True, expr, (0,), as_test, NoUse)

    def test_a_scheme_that_holds_as_test(self):
        scheme = scheme_of("not not p()", "p()")
        inner = ("not", ("not", call("f")))
        self.check_use(scheme, False, inner, (), False, NoUse)
        self.check_use(scheme, False, inner, (), True, call("f"))
        self.check_use(scheme, False, ("if", inner, A, B), (0,), False, ("if", call("f"), A, B))
        self.check_use(scheme, False, ("if", A, inner, B), (1,), False, NoUse)
        self.check_use(scheme, False, ("if", A, inner, B), (1,), True, ("if", A, call("f"), B))
        self.check_use(scheme, False, ("default", inner, A), (0,), True, NoUse)
        self.check_use(scheme, False, call("g", inner), (0,), True, NoUse)
        self.check_use(scheme, True, ("not", A), (0,), False, nested(3))
        self.check_use(scheme, True, A, (), False, NoUse)

    def test_a_scheme_that_holds_as_pure(self):
        scheme = scheme_of("p() and p()", "p()")
        pure = ("or", A, NONE)
        self.check_use(scheme, False, ("and", pure, pure), (), False, pure)
        self.check_use(scheme, True, call("f", pure), (0,), False, call("f", ("and", pure, pure)))
        for put_there in [call("f"), call("f", A), compare(A, ("<", B)), ("not", call("f"))]:
            self.check_use(scheme, False, ("and", put_there, put_there), (), False, NoUse)
            self.check_use(scheme, False, ("and", put_there, put_there), (), True, NoUse)
            self.check_use(scheme, True, put_there, (), True, NoUse)
        self.check_use(scheme, False, ("and", A, B), (), False, NoUse)

    def test_a_scheme_that_holds_as_pure_test(self):
        scheme = scheme_of("p() and q()", "q() and p()")
        self.check_use(scheme, False, ("and", A, B), (), True, ("and", B, A))
        self.check_use(scheme, True, ("and", A, B), (), True, ("and", B, A))
        self.check_use(scheme, False, ("and", A, B), (), False, NoUse)
        self.check_use(scheme, False, ("not", ("and", A, B)), (0,), False, ("not", ("and", B, A)))
        self.check_use(scheme, False, ("not", ("and", A, call("f"))), (0,), False, NoUse)
        self.check_use(scheme, False, ("not", ("and", call("f"), A)), (0,), True, NoUse)

    def test_a_scheme_that_holds_in_no_sense(self):
        for as_test in (True, False):
            self.check_use((P, Q), False, A, (), as_test, NoUse)
            self.check_use((A, B), False, A, (), as_test, NoUse)

    def test_letters_of_the_other_side_alone(self):
        """They stay calls, so a scheme that holds as pure only does not allow them."""
        absorbing = scheme_of("p() or (p() and q())", "p()")
        self.check_use(absorbing, False, ("or", A, ("and", A, B)), (), False, A)
        self.check_use(absorbing, True, A, (), False, NoUse)
        self.check_use(absorbing, True, A, (), True, NoUse)
        never = scheme_of("p() if true else q()", "p()")
        self.check_use(never, True, A, (), False, ("if", TRUE, A, Q))
        self.check_use(never, True, call("f", A), (), False, ("if", TRUE, call("f", A), Q))
        self.check_use(never, False, ("if", TRUE, A, compare(B, ("<", C))), (), False, A)
        self.check_use(scheme_of("true", "true or q()"), False, TRUE, (), False, ("or", TRUE, Q))

    def test_letters_that_stand_twice(self):
        scheme = scheme_of("p() if q() else p()", "p()")
        self.check_use(scheme, False, ("if", A, B, B), (), False, B)
        self.check_use(scheme, False, ("if", A, B, C), (), False, NoUse)
        self.check_use(scheme, False, ("if", B, B, B), (), False, B)
        both = (("and", P, P), ("if", P, P, P))
        for wrong in [("and", A, ("not", A)), ("and", A, NONE), ("or", A, A), ("and", call("p"), A)]:
            self.check_use(both, False, wrong, (), False, NoUse)

    def test_what_matches(self):
        """Variables, constants, functions and signs match themselves alone, letters everything."""
        scheme = (call("p", P, A), call("p", P, A))
        self.check_use(scheme, False, call("p", call("g", B), A), (), False, call("p", call("g", B), A))
        for wrong in [call("p", P, B), call("q", P, A), call("p", A), call("p", A, A, A), P, call("p", B, NONE), A]:
            self.check_use(scheme, False, wrong, (), False, NoUse)
        scheme = (compare(P, ("<", Q)), compare(P, ("<", Q)))
        self.check_use(scheme, False, compare(NONE, ("<", call("f"))), (), False, compare(NONE, ("<", call("f"))))
        for wrong in [compare(A, ("<=", B)), compare(A, ("<", B), ("<", C)), call("f", A, B), ("and", A, B)]:
            self.check_use(scheme, False, wrong, (), False, NoUse)
        for leaf in [A, NONE, TRUE, FALSE]:
            for other in [A, B, NONE, TRUE, FALSE, P, ("not", A)]:
                self.check_use((leaf, leaf), False, other, (), False, leaf if leaf == other else NoUse)

    def test_many(self):
        source = random.Random(25)
        schemes = [scheme_of(left, right) for left, right, wanted in EQUATIONS if wanted is not None]
        parts = [A, B, NONE, ("not", A), ("or", A, B), call("p"), call("f", A), compare(A, ("<", B)), ("isnone", B)]
        holes = helper.some_expressions(26, 60, levels=3, names="ab", places=1)
        told = {NoUse: 0, TooLarge: 0, None: 0}
        for number in range(1500):
            scheme = source.choice(schemes)
            backwards, as_test = source.choice([True, False]), source.choice([True, False])
            side = scheme[1] if backwards else scheme[0]
            part = put_in(side, {letter: source.choice(parts) for letter in letters_in(side)})
            hole = source.choice(holes)
            path = source.choice([path for path, _ in helper.walk(hole)])
            expr = helper.replaced(hole, path, part)
            if too_large(expr):
                continue
            wanted = used(scheme, backwards, expr, path, as_test)
            told[wanted if isinstance(wanted, type) else None] += 1
            if isinstance(wanted, type):
                self.check_error(wanted, use, scheme, backwards, expr, path, as_test)
                continue
            found = use(scheme, backwards, expr, path, as_test)
            self.assertEqual(found, wanted)
            if helper.surveyable(expr) and helper.surveyable(found):
                self.assertIsNone((parting_test if as_test else parting)(expr, found))
        self.assertGreater(min(told[NoUse], told[None]), 200)

    def test_errors_in_their_order(self):
        good, wide = (("not", ("not", P)), P), helper.most_parts()
        for wrong in helper.bad_expressions()[::3]:
            self.check_error(InvalidScheme, use, (P, wrong), False, wrong, None, True)
            self.check_error(InvalidExpression, use, good, False, wrong, None, True)
        for path in [*helper.no_values(), (1,), (-1,), (0, 0), [0], (True,), ("0",)]:
            # Ahead of a scheme that does not match, or is not right.
            self.check_error(InvalidPath, use, good, False, ("not", A), path, True)
            self.check_error(InvalidPath, use, (P, Q), True, ("not", A), path, False)
        self.check_error(NoUse, use, (P, ("not", P)), False, wide, (), True)
        self.check_error(NoUse, use, good, True, call("f", helper.joined([A, B] * 10)), (0,), False)

    def test_at_each_bound_and_just_beyond(self):
        longer = scheme_of("p()", "p() if true else p()")
        self.check_error(TooLarge, use, longer, False, helper.most_parts(), (), False)
        self.check_error(TooLarge, use, longer, False, helper.most_places(), (), False)
        self.check_error(TooLarge, use, longer, False, nested(11), (), False)
        self.check_error(TooLarge, use, longer, False, nested(11), (0,) * 11, False)
        for path in [(0,) * 10, (0,) * 11]:
            self.assertEqual(self.check_call(use, longer, True, helper.replaced(
                nested(10), path[:9], ("if", TRUE, A, A)), path[:9], False), nested(9))
        other = scheme_of("p()", "p() ?? none")
        ten = nested(10)
        self.assertEqual(self.check_call(use, other, False, ten, (0,) * 10, False), nested(10, ("default", A, NONE)))
        variable = (("if", TRUE, P, ("name", "z")), P)
        self.check_error(TooLarge, use, variable, True, helper.most_variables(), (), False)
        self.assertEqual(use(variable, False, ("if", TRUE, helper.joined([A, B, C]), ("name", "z")), (), False),
                         helper.joined([A, B, C]))
        places = (("if", TRUE, P, call("f", A)), P)
        self.check_error(TooLarge, use, places, True, helper.most_places(), (), False)

    def test_large_schemes(self):
        one = helper.large_surveyable()
        self.assertEqual(self.check_call(use, (one, one), True, one, (), False), one)


class ChainTest(Case):
    def chain(self):
        """A chain as tests, from `not (not a or b) ` to `not b and a`."""
        morgan = scheme_of("not (p() or q())", "not p() and not q()")
        twice = scheme_of("not not p()", "p()")
        turned = scheme_of("p() and q()", "q() and p()")
        steps = [(morgan, False, ()), (twice, False, (0,)), (turned, False, ())]
        return read_expression("not (not a or b)"), steps, read_expression("not b and a")

    def test_a_chain(self):
        expr, steps, end = self.chain()
        self.assertIsNone(self.check_call(check_chain, expr, steps, end, True))
        backwards = [(scheme, not turned, path) for scheme, turned, path in reversed(steps)]
        self.assertIsNone(self.check_call(check_chain, end, backwards, expr, True))

    def test_as_a_value_the_second_step_is_not_right(self):
        expr, steps, end = self.chain()
        self.assertEqual(self.check_call(check_chain, expr, steps, end, False), ("step", 1))
        self.assertEqual(check_chain(call("f", expr), [(scheme, turned, (0, *path)) for scheme, turned, path in steps],
                                     call("f", end), True), ("step", 1))

    def test_the_end(self):
        expr, steps, end = self.chain()
        self.assertEqual(self.check_call(check_chain, expr, steps, expr, True), ("end",))
        self.assertEqual(check_chain(expr, steps[:2], end, True), ("end",))
        self.assertEqual(self.check_call(check_chain, A, [], B, False), ("end",))
        self.assertIsNone(self.check_call(check_chain, A, [], A, False))

    def test_no_steps(self):
        for steps in [*helper.no_values(), (), {}, "", ((P, P), False, ()), (((P, P), False, ()),)]:
            if not isinstance(steps, list) or len(steps) > 20:
                self.assertEqual(self.check_call(check_chain, A, steps, A, False), ("steps",))
                # Ahead of an end that is wrong.
                self.assertEqual(check_chain(A, steps, B, True), ("steps",))
        same = ((P, P), True, ())
        self.assertIsNone(self.check_call(check_chain, A, [same] * 20, A, True))
        self.assertEqual(self.check_call(check_chain, A, [same] * 21, A, True), ("steps",))
        self.assertEqual(self.check_call(check_chain, A, [None] * 21, A, True), ("steps",))

    def test_the_first_wrong_step(self):
        expr, steps, end = self.chain()
        scheme, turned, path = steps[1]
        wrong = [*helper.no_values(), (), (scheme,), (scheme, turned), (scheme, turned, path, None), list(steps[1])]
        wrong += [(scheme, value, path) for value in (None, 0, 1, "", "False", (), [False])]
        wrong += [(scheme, True, path, True), (scheme, turned, list(path)), (scheme, turned, 0), (scheme, turned, (9,))]
        wrong += [(value, turned, path) for value in bad_schemes()[::9]]
        wrong += [((P, Q), turned, path), ((C, C), turned, path), (scheme, turned, (0, 0)),
            (scheme, not turned, (0, 9))]
        wrong += [((P, ("if", TRUE, P, helper.large_surveyable())), False, (0,))]
        for item in wrong:
            for number in range(3):
                items = [*steps[:number], item, *steps[number:]]
                self.assertEqual(check_chain(expr, items, end, True), ("step", number), item)
                # The first one of two that are wrong counts, and no later one is looked at.
                self.assertEqual(check_chain(expr, [*items, None], A, True), ("step", number))

    def test_each_error_of_a_step(self):
        cases = [
            (InvalidScheme, ((P,), False, ())), (InvalidPath, ((P, P), False, (0,))), (NoUse, ((P, Q), False, ())),
            (NoUse, ((NONE, NONE), False, ())), (TooLarge, ((P, ("if", TRUE, P, call("f", A))), False, ())),
        ]
        expr = ("not", helper.most_places())
        for error, step in cases:
            self.assertTrue(issubclass(error, OperandError))
            at = () if error is InvalidPath else (0,)
            step = (*step[:2], (0, 9) if error is InvalidPath else at)
            self.check_error(error, use, *step[:2], expr, step[2], True)
            self.assertEqual(self.check_call(check_chain, expr, [step], expr, True), ("step", 0))

    def test_wrong_expressions_come_first(self):
        for wrong in helper.bad_expressions():
            self.check_error(InvalidExpression, check_chain, wrong, None, A, True)
            self.check_error(InvalidExpression, check_chain, A, None, wrong, False)

    def test_many_large_steps(self):
        """20 steps of schemes at the bounds."""
        four = call("f", call("f", call("f", P)))
        late = [("isnone", ("name", name)) for name in "ab"] * 5
        side = ("default", ("if", four, NONE, NONE), helper.joined(late))
        same = ((side, side), False, ())
        self.assertIsNone(check_scheme(same[0]))
        self.assertIsNone(self.check_call(check_chain, put(side, {}), [same] * 20, side, False))


class PathsTest(Case):
    def test_every_path_of_use(self):
        """Each path is one that can be rewritten."""
        scheme = scheme_of("p()", "none ?? p()")
        for expr in helper.some_expressions(27, 20, levels=4, places=3):
            for path in paths(expr):
                wanted = helper.replaced(expr, path, ("default", NONE, part_of(expr, path)))
                if not too_large(wanted):
                    self.assertEqual(use(scheme, False, expr, path, False), wanted)


if __name__ == "__main__":
    unittest.main()
