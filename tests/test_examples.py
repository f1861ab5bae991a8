"""The examples of the document, as far as the program goes."""

import unittest

from keptops.evaluation import evaluate
from keptops.forms import mergings
from keptops.texts import expression_text, read_expression
from keptops.trees import parting, parting_test


class ExamplesTest(unittest.TestCase):
    def test_evaluation_and_texts(self):
        expr = read_expression('f(a) and (b or g())')
        self.assertEqual(
            repr([evaluate(expr, {'a': 't', 'b': 'f'}, ['t', 't']), expression_text(expr)]),
            "[([('f', (('object', ('name', 'a')),)), ('g', ())], ('value', ('object', ('event', 1)))), "
            "'f(a) and (b or g())']",
        )

    def test_parting(self):
        found = [parting(read_expression('a and b or a'), read_expression('b if a else a'))]
        found += [parting_test(read_expression('not not a'), read_expression('a'))]
        self.assertEqual(repr(found), "[({'a': 't', 'b': 'f'}, []), None]")

    def test_mergings(self):
        found = [mergings(read_expression('f(a, b)'), read_expression('f(b, a)'))]
        found += [mergings(read_expression('a'), read_expression('none'))]
        self.assertEqual(repr(found), "[[(('a', 'b'),)], []]")


if __name__ == "__main__":
    unittest.main()
