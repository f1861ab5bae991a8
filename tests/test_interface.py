"""The interface at the document's end, and the folder of the package."""

import ast
import importlib
import inspect
import pathlib
import unittest

PACKAGE = pathlib.Path(__file__).resolve().parent.parent / "keptops"
INTERFACE = {
    "exprs": ["check_expression(expr)", "variables(expr)", "size(expr)", "event_places(expr)"],
    "evaluation": ["evaluate(expr, kinds, answers)"],
    "texts": ["expression_text(expr)", "read_expression(text)"],
    "trees": [
        "call_tree(expr, kinds)", "count_runs(expr, kinds)", "run_number(expr, kinds, answers)",
        "nth_run(expr, kinds, n)", "parting(one, other)", "parting_test(one, other)",
    ],
    "forms": [
        "form(expr)", "matters(expr)", "count_worlds(expr, tree)", "nth_world(expr, tree, n)", "trees(expr)",
        "mergings(one, other)",
    ],
    "parts": [
        "paths(expr)", "part_of(expr, path)", "with_part(expr, path, other)", "pruned(expr)",
        "first_reach(expr, path)", "first_result(expr, path)", "origin(expr, kinds, answers)",
    ],
    "schemes": [
        "check_scheme(scheme)", "breaking(scheme, sense)", "senses(scheme)", "put(expr, parts)",
        "use(scheme, backwards, expr, path, as_test)", "is_test(expr, path, as_test)",
        "check_chain(expr, steps, end, as_test)",
    ],
    "logs": ["open_answers(events)", "expression_of(events, value)"],
    "keeping": ["least_program(events)"],
    "flat": [
        "check_code(code)", "depths(code)", "run_code(code, kinds, answers)", "count_steps(code, kinds, answers)",
    ],
    "compiling": ["compile_expression(expr)", "threaded(code)", "code_parting(code, expr)"],
    "programs": ["check_program(program)", "play(program, history)"],
    "pairs": ["compare_programs(one, other)", "table_error(one, other, table)"],
    "facts": [
        "row_history(program, row)", "holding_history(program, row, x, look)", "same_history(program, row, x, y)",
    ],
    "needs": ["needed(program, history)", "most_needed(program)"],
    "likes": ["least_like(program, history)"],
    "machines": ["run_machine(machine, history)", "machine(program)"],
    "counts": [
        "most_events(program, word, answers=('t', 'f', 'n', 'x'))",
        "check_most(program, word, answer, answers=('t', 'f', 'n', 'x'))",
    ],
    "progtexts": ["program_text(program)", "read_program(text)"],
    "runs": ["attempt(run, calls)"],
}
# What stands in the body of each class: methods with their arguments, and operators, of which the names of the
# arguments are free.
CLASSES = {
    ("values", "Expr(data)"): (
        ["canonical(self)", "alike(self, other)", "choose(self, yes, no)", "default(self, other)", "is_none(self)",
            "compare(self, *links)", "implies(self, other)", "runs(self, **kinds)",
            "__call__(self, kinds, answers=())"],
        ["__and__", "__rand__", "__or__", "__ror__", "__invert__", "__eq__", "__contains__", "__len__", "__getitem__"],
        ["data", "text", "variables", "pure"],
        {"read(cls, text)": classmethod, "variable(x)": staticmethod, "constant(value)": staticmethod,
            "call(f, *operands)": staticmethod},
    ),
    ("runs", "Run(program)"): (
        ["holding(self)", "copy(self)", "undo(self)", "same_future(self, other)", "trial(self)",
            "__call__(self, kinds, answers=())"],
        ["__len__", "__eq__"], ["program", "history"], {},
    ),
    ("desk", "Desk()"): (
        ["all_names(self)", "start(self, name)", "load(self, text)"],
        ["__getitem__", "__setitem__", "__contains__", "__len__", "__iter__"], [], {},
    ),
}


class InterfaceTest(unittest.TestCase):
    def test_each_function_is_defined_in_its_file_with_its_arguments(self):
        for name, functions in INTERFACE.items():
            module = importlib.import_module(f"keptops.{name}")
            for text in functions:
                function = getattr(module, text.partition("(")[0])
                self.assertEqual(function.__name__ + str(inspect.signature(function)), text)
                self.assertEqual(function.__module__, f"keptops.{name}")

    def test_each_class_has_its_methods_itself(self):
        for (name, text), (methods, operators, properties, others) in CLASSES.items():
            module = importlib.import_module(f"keptops.{name}")
            found = getattr(module, text.partition("(")[0])
            self.assertEqual(found.__name__ + str(inspect.signature(found)), text)
            self.assertEqual((found.__module__, found.__bases__), (f"keptops.{name}", (object,)))
            body = vars(found)
            for method in methods:
                function = body[method.partition("(")[0]]
                self.assertTrue(inspect.isfunction(function))
                self.assertEqual(function.__name__ + str(inspect.signature(function)), method)
            for operator in operators:
                self.assertTrue(inspect.isfunction(body[operator]), operator)
            for word in properties:
                self.assertIs(type(body[word]), property)
            for method, kind in others.items():
                function = body[method.partition("(")[0]]
                self.assertIs(type(function), kind)
                self.assertEqual(function.__func__.__name__ + str(inspect.signature(function.__func__)), method)


class FolderTest(unittest.TestCase):
    def files(self):
        return [(path, path.read_text(encoding="utf-8")) for path in sorted(PACKAGE.rglob("*.py"))]

    def test_nothing_but_files_of_the_program(self):
        found = [path for path in PACKAGE.rglob("*") if "__pycache__" not in path.parts]
        self.assertEqual([path for path in found if path.suffix != ".py"], [])
        self.assertIn(PACKAGE / "__init__.py", found)

    def test_sizes_and_characters(self):
        for path, text in self.files():
            self.assertLessEqual(len(text.splitlines()), 399, path)
            self.assertLessEqual(max(len(line) for line in text.splitlines()), 120, path)
            self.assertTrue(all(sign == "\n" or " " <= sign <= "~" for sign in text), path)
            for node in ast.walk(ast.parse(text)):
                if isinstance(node, ast.FunctionDef):
                    self.assertLessEqual(node.end_lineno - node.lineno + 1, 40, (path, node.name))

    def test_imports_come_from_the_package_alone(self):
        for path, text in self.files():
            tree = ast.parse(text)
            for node in ast.walk(tree):
                self.assertNotIsInstance(node, (ast.Import, ast.AsyncFunctionDef, ast.Await, ast.GeneratorExp), path)
                if isinstance(node, ast.ImportFrom):
                    self.assertIn(node, tree.body, path)
                    self.check_import(node)

    def test_no_star_in_an_index(self):
        for path, text in self.files():
            for node in ast.walk(ast.parse(text)):
                if isinstance(node, ast.Subscript):
                    stars = [part for part in ast.walk(node.slice) if isinstance(part, ast.Starred)]
                    self.assertEqual(stars, [], (path, node.lineno))

    def check_import(self, node):
        """Names come from the very file that defines them."""
        self.assertTrue(node.module.startswith("keptops."))
        module = importlib.import_module(node.module)
        defined = ast.parse(inspect.getsource(module)).body
        names = [name.name for name in defined if isinstance(name, (ast.FunctionDef, ast.ClassDef))]
        names += [target.id for line in defined if isinstance(line, ast.Assign) for target in line.targets]
        for alias in node.names:
            self.assertIn(alias.name, names)


if __name__ == "__main__":
    unittest.main()
