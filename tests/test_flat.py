"""Promise [20]: flat code, its depths, and what it does."""

import random
import unittest

import helper
from helper import ANSWERS, Case, CodeRun, EXAMPLE_CODE, KINDS, NONE, TESTS, TRUE, bad_codes, obj, right_codes
from keptops.errors import InvalidCode, InvalidWorld
from keptops.flat import check_code, count_steps, depths, run_code

class CheckTest(Case):
    def test_code(self):
        for code in right_codes():
            self.assertIsNone(self.check_call(check_code, code))
            self.assertIsNotNone(helper.depths_in(code))

    def test_no_code(self):
        for code in bad_codes():
            self.check_error(InvalidCode, check_code, code)
            self.check_error(InvalidCode, depths, code)
            # Ahead of all other errors.
            self.check_error(InvalidCode, run_code, code, None, None)
            self.check_error(InvalidCode, count_steps, code, None, None)

    def test_any_list_of_instructions(self):
        """Random lists are code just if all ways through them say so."""
        source = random.Random(51)
        right = 0
        for _ in range(3000):
            code = helper.some_code(source, source.randint(2, 7))
            at = source.randrange(len(code))
            change = source.choice(["drop", "copy", "swap", "target"])
            if change == "drop":
                del code[at]
            elif change == "copy":
                code.insert(source.randrange(len(code) + 1), code[at])
            elif change == "swap":
                other = source.randrange(len(code))
                code[at], code[other] = code[other], code[at]
            elif code[at][0].startswith("jump"):
                code[at] = (*code[at][:-1], source.randint(0, len(code) + 1))
            ahead = all(at < instruction[-1] <= len(code) for at, instruction in enumerate(code)
                        if instruction[0].startswith("jump"))
            if not code or not ahead or helper.events_in_code(code) > 6 or helper.depths_in(code) is None:
                self.check_error(InvalidCode, check_code, code)
            else:
                right += 1
                self.assertEqual(depths(code), helper.depths_in(code))
        self.assertTrue(300 < right < 2700)


class DepthsTest(Case):
    def test_the_document(self):
        self.assertEqual(self.check_call(depths, EXAMPLE_CODE), [0, 1, 0, 1, 0, 1])

    def test_each_instruction(self):
        a = ("name", "a")
        code = [a, a, a, ("under",), ("swap",), ("copy",), ("pop",), ("not",), ("isnone",), ("compare", "<"),
            ("call", "f", 2)]
        self.assertEqual(self.check_call(depths, code), [0, 1, 2, 3, 3, 3, 4, 3, 3, 3, 2, 1])
        self.assertEqual(depths([("none",), ("true",), ("false",), ("call", "f", 0), ("call", "f", 3), ("pop",)]),
                         [0, 1, 2, 3, 4, 2, 1])
        self.assertEqual(depths([a, a, ("jump_pop", "true", 4), ("not",)]), [0, 1, 2, 1, 1])
        self.assertEqual(depths([a, ("jump_keep", "true", 3), a]), [0, 1, 0, 1])

    def test_what_cannot_be_come_to(self):
        a = ("name", "a")
        self.assertEqual(self.check_call(depths, [a, ("jump", 3), ("pop",)]), [0, 1, None, 1])
        self.assertEqual(depths([("jump", 3), a, ("jump_pop", "true", 3), a]), [0, None, None, 0, 1])
        self.assertEqual(depths([a, ("jump", 4), ("jump", 3), ("under",)]), [0, 1, None, None, 1])

    def test_all_ways(self):
        source = random.Random(52)
        codes = [helper.some_code(source, source.randint(3, 16), places=4) for _ in range(400)]
        for code in [*codes, *right_codes()]:
            self.assertEqual(depths(code), helper.depths_in(code))


class RunTest(Case):
    def check_run(self, code, kinds, answers):
        wanted = CodeRun(code, kinds, answers)
        self.assertEqual(run_code(code, kinds, answers), (wanted.events, wanted.outcome))
        self.assertEqual(count_steps(code, kinds, answers), wanted.steps)

    def check_all(self, code):
        for kinds in helper.worlds(helper.names_in_code(code)):
            for answers in helper.answer_lists(min(2, helper.events_in_code(code))):
                self.check_run(code, kinds, answers)

    def test_the_document(self):
        self.assertEqual(self.check_call(run_code, EXAMPLE_CODE, {"a": "t"}, ["f"]), ([("f", ())], ("value", NONE)))
        self.assertEqual(self.check_call(count_steps, EXAMPLE_CODE, {"a": "t"}, ["f"]), 5)
        self.assertEqual(self.check_call(count_steps, EXAMPLE_CODE, {"a": "f"}, []), 4)

    def test_each_instruction(self):
        for code in right_codes():
            if len(code) <= 12:
                self.check_all(code)

    def test_where_the_values_go(self):
        a, b, c = [("name", name) for name in "abc"]
        kinds, seen = {"a": "t", "b": "f", "c": "t"}, [obj("name", name) for name in "abc"]
        cases = [
            ([a, b, c, ("call", "f", 3)], seen), ([a, b, c, ("under",), ("call", "f", 3)], [seen[2], seen[0], seen[1]]),
            ([a, b, ("swap",), ("call", "f", 2)], [seen[1], seen[0]]),
            ([a, ("copy",), ("call", "f", 2)], [seen[0]] * 2),
            ([a, b, ("pop",), ("call", "f", 1)], [seen[0]]), ([a, b, c, ("swap",), ("call", "f", 3)],
                [seen[0], seen[2], seen[1]]),
        ]
        # With more values below.
        deep, clear = [a, b, c, a, b], [("swap",), ("pop",)]
        cases += [([*deep, ("swap",), ("call", "f", 3), *clear * 2], [seen[2], seen[1], seen[0]])]
        cases += [([*deep, ("under",), ("call", "f", 3), *clear * 2], [seen[1], seen[2], seen[0]])]
        cases += [([*deep, ("under",), ("pop",), ("call", "f", 3), *clear], [seen[1], seen[1], seen[2]])]
        for code, values in cases:
            self.assertEqual(self.check_call(run_code, code, kinds, ["t"]),
                ([("f", tuple(values))], ("value", obj("event", 0))))
        self.assertEqual(run_code([b, a, ("compare", ">=")], kinds, ["n"]),
            ([(">=", (seen[1], seen[0]))], ("value", NONE)))
        self.assertEqual(run_code([a, b, ("call", "f", 1), ("call", "g", 2)], kinds, ["f", "t"]),
                         ([("f", (seen[1],)), ("g", (seen[0], obj("event", 0)))], ("value", obj("event", 1))))

    def test_each_test(self):
        """Which of the values jumps, for each test."""
        values = [("true",), ("false",), ("none",), ("name", "a"), ("call", "f", 0)]
        jumping = {"true": "t", "false": "fn", "none": "n", "given": "tf"}
        for value in values:
            for kind in KINDS:
                seen = {"true": "t", "false": "f", "none": "n"}.get(value[0], kind)
                for test in TESTS:
                    code = [value, ("jump_pop", test, 4), ("false",), ("jump", 5), ("true",)]
                    wanted = TRUE if seen in jumping[test] else ("false",)
                    self.assertEqual(run_code(code, {"a": kind}, [kind])[1], ("value", wanted))
                    self.assertEqual(count_steps(code, {"a": kind}, [kind]), 3 if wanted == TRUE else 4)
                    kept = run_code([value, ("jump_keep", test, 4), ("none",), ("isnone",)], {"a": kind}, [kind])[1]
                    self.assertEqual(kept == ("value", TRUE), seen not in jumping[test] or value == TRUE)

    def test_events_that_fail_or_find_no_answer(self):
        code = [("call", "f", 0), ("call", "g", 1), ("not",)]
        f, g = ("f", ()), ("g", (obj("event", 0),))
        cases = [
            ([], [f], ("wanting",), 1), (["x"], [f], ("failed", 0), 1), (["t"], [f, g], ("wanting",), 2),
            (["t", "x"], [f, g], ("failed", 1), 2), (["t", "n"], [f, g], ("value", TRUE), 3),
            (["t", "n", "x", "q"][:3], [f, g], ("value", TRUE), 3), (["x", "t", "t"], [f], ("failed", 0), 1),
        ]
        for answers, events, outcome, steps in cases:
            self.assertEqual(self.check_call(run_code, code, {}, answers), (events, outcome))
            self.assertEqual(self.check_call(count_steps, code, {}, answers), steps)

    def test_many(self):
        source = random.Random(53)
        for _ in range(300):
            self.check_all(helper.some_code(source, source.randint(3, 14), places=3))

    def test_at_the_bounds(self):
        for code in right_codes():
            if len(code) > 12:
                for kind in KINDS:
                    self.check_run(code, dict.fromkeys("abcd", kind), [kind] * 6)
        self.check_call(run_code, [("name", "a")] + [("not",)] * 119, {"a": "t"}, [])
        self.assertEqual(count_steps([("name", "a")] + [("not",)] * 119, {"a": "t"}, []), 120)
        self.assertEqual(count_steps([("name", "a"), ("jump", 120)] + [("not",)] * 118, {"a": "t"}, []), 2)


class WorldTest(Case):
    def test_wrong_kinds(self):
        for kinds in [*helper.no_values(), {}, {"b": "t"}, {"a": "x"}, {"a": None}, {"a": ["t"]}, [("a", "t")],
            {"A": "t"}]:
            self.check_error(InvalidWorld, run_code, EXAMPLE_CODE, kinds, [])
            self.check_error(InvalidWorld, count_steps, EXAMPLE_CODE, kinds, [])

    def test_variables_that_cannot_be_come_to(self):
        code = [("name", "a"), ("jump", 3), ("name", "b")]
        for function in (run_code, count_steps):
            self.check_error(InvalidWorld, function, code, {"a": "t"}, [])
            self.check_error(InvalidWorld, function, code, {"a": "t", "b": "x"}, [])
            self.check_error(InvalidWorld, function, code, {"b": "t"}, [])
        self.assertEqual(run_code(code, {"a": "t", "b": "f"}, []), ([], ("value", obj("name", "a"))))

    def test_what_else_is_in_kinds(self):
        kinds = {"a": "t", "b": "x", 3: None, "call": [], "": {}}
        self.assertEqual(self.check_call(run_code, EXAMPLE_CODE, kinds, ["t"])[1], ("value", obj("event", 0)))

    def test_wrong_answers(self):
        wrong = [value for value in helper.no_values() if not (isinstance(value, list) and value == [])]
        for answers in [*wrong, (), ("t",), "t", {}, {"t": "t"}, None, ["q"], ["t", None], ["t", "T"], ["t", ["t"]],
            [["t"]]]:
            self.check_error(InvalidWorld, run_code, EXAMPLE_CODE, {"a": "f"}, answers)
            self.check_error(InvalidWorld, count_steps, EXAMPLE_CODE, {"a": "f"}, answers)
        for answers in helper.answer_lists(2):
            self.assertEqual(run_code(EXAMPLE_CODE, {"a": "f"}, answers), ([], ("value", NONE)))
        self.assertEqual(run_code(EXAMPLE_CODE, {"a": "t"}, list(ANSWERS)), ([("f", ())], ("value", obj("event", 0))))


if __name__ == "__main__":
    unittest.main()
