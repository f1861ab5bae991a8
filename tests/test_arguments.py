"""Promise [2] and the interface: arguments by name, in any order, with the same answers."""

import importlib
import inspect
import itertools
import unittest

from helper import A, B, C, Case, NONE, TRUE, call
from keptops.desk import Desk
from keptops.runs import Run, attempt
from keptops.values import Expr
from test_interface import INTERFACE

F = call("f", A)
EVENTS = [("f", ()), ("g", (("object", ("event", 0)),))]
CODE = [("name", "a"), ("jump_keep", "false", 3), ("call", "f", 0), ("jump_keep", "true", 5), ("none",)]
CACHE = ((), (("c", "none"),), (("if", ("isnone", C), (("set", "c", call("load")),), ()), ("give", C)))
DEFAULT = ((), (("c", "none"),), (("set", "c", ("default", C, call("load"))), ("give", C)))
MACHINE = (("p",), 0, ((0, ("ask", "f", (("parameter", 0),), (("end", ("value", ("event", 0)), 0, ()),
    ("end", ("failed", 0), 0, ())))),))
SCHEME = (("and", call("p"), call("p")), call("p"))
HISTORY = [((), ["t"]), ((), [])]
KINDS = {"a": "t", "b": "f"}
# Arguments for each function, one list or more.
SAMPLES = {
    "check_expression": [[F]], "variables": [[F]], "size": [[F]], "event_places": [[F]],
    "evaluate": [[F, KINDS, ["t"]]], "expression_text": [[F]], "read_expression": [["f(a) or b"]],
    "call_tree": [[F, KINDS]], "count_runs": [[F, KINDS]], "run_number": [[F, KINDS, ["n"]]],
    "nth_run": [[F, KINDS, 2]], "parting": [[A, F], [F, F]], "parting_test": [[A, B]],
    "form": [[("and", A, B)]], "matters": [[("and", A, B)]], "count_worlds": [[A, ("done", NONE)]],
    "nth_world": [[("and", A, B), ("done", ("object", ("name", "b"))), 0]], "trees": [[A]],
    "mergings": [[call("f", A, B), call("f", B, A)]], "paths": [[F]], "part_of": [[F, (0,)]],
    "with_part": [[F, (0,), B]], "pruned": [[("or", TRUE, A)]], "first_reach": [[("and", A, B), (1,)]],
    "first_result": [[("and", A, B), (0,)]], "origin": [[("and", A, B), KINDS, []]],
    "check_scheme": [[SCHEME]], "breaking": [[SCHEME, "value"]], "senses": [[SCHEME]],
    "put": [[call("p"), {"p": A}]], "use": [[SCHEME, False, ("and", A, A), (), True]],
    "is_test": [[("not", A), (0,), False]],
    "check_chain": [[("and", A, A), [(SCHEME, False, ())], A, False]],
    "open_answers": [[EVENTS]], "expression_of": [[EVENTS, ("object", ("event", 1))]], "least_program": [[EVENTS]],
    "check_code": [[CODE]], "depths": [[CODE]], "run_code": [[CODE, KINDS, ["f"]]],
    "count_steps": [[CODE, KINDS, ["f"]]], "compile_expression": [[F]], "threaded": [[CODE]],
    "code_parting": [[CODE, A]], "check_program": [[CACHE]], "play": [[CACHE, HISTORY]],
    "compare_programs": [[CACHE, DEFAULT]],
    "table_error": [[CACHE, DEFAULT, [("none", "none"), ((0, "t"), (0, "t"))]]], "row_history": [[CACHE, 1]],
    "holding_history": [[CACHE, 2, "c", "f"]], "same_history": [[CACHE, 2, "c", "c"]], "needed": [[CACHE, HISTORY]],
    "most_needed": [[CACHE]], "least_like": [[CACHE, HISTORY]], "run_machine": [[MACHINE, [(("t",), ["n"])]]],
    "machine": [[CACHE]], "most_events": [[CACHE, "load"], [CACHE, "load", ("t",)]],
    "check_most": [[CACHE, "load", ("endless", [], [((), ["x"])])],
        [CACHE, "load", ("endless", [], [((), ["x"])]), ("t", "n")]],
    "program_text": [[CACHE]], "read_program": [["program p\ngive p\n"]],
}


def by_name(function, values):
    """What the function returns with its arguments by name, in each order."""
    names = list(inspect.signature(function).parameters)[:len(values)]
    for pairs in itertools.permutations(list(zip(names, values))):
        yield function(**dict(pairs))


class ArgumentsTest(Case):
    def test_each_function(self):
        for name, functions in INTERFACE.items():
            module = importlib.import_module(f"keptops.{name}")
            for text in functions:
                word = text.partition("(")[0]
                if word != "attempt":
                    self.check_function(getattr(module, word), SAMPLES[word])

    def check_function(self, function, samples):
        for values in samples:
            wanted = self.check_call(function, *values)
            for found in by_name(function, values):
                self.assertEqual(found, wanted)
                self.assertIs(type(found), type(wanted))

    def test_expressions_as_values(self):
        self.assertEqual(Expr(data=F), Expr.read(text="f(a)"))
        self.assertEqual(Expr.variable(x="a"), Expr(A))
        self.assertEqual(Expr.constant(value=None), Expr(NONE))
        value, b = Expr(F), Expr(B)
        for method, values in [(value.alike, [b]), (value.choose, [b, None]), (value.default, [b]),
                               (Expr(A).implies, [b]), (value, [KINDS, ["t"]]), (value, [KINDS])]:
            for found in by_name(method, values):
                self.assertEqual(found, method(*values))

    def test_runs_and_desks(self):
        for found in by_name(Run(DEFAULT), [(), ["x"]]):
            self.assertEqual(found, ([("load", ())], ("failed", 0)))
        run = Run(program=CACHE)
        for found in by_name(attempt, [run, [((), ["t"]), None]]):
            self.assertEqual(found, [([("load", ())], ("value", ("object", (0, ("event", 0)))))])
        self.assertIsNone(run.same_future(other=Run(DEFAULT)))
        desk = Desk()
        self.assertEqual(desk.load(text="name a\nprogram"), ["a"])
        self.assertEqual(desk.start(name="a"), Run(((), (), ())))


if __name__ == "__main__":
    unittest.main()
