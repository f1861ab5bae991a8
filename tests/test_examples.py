"""The examples of the document, all of them."""

import unittest

from keptops.counts import check_most, most_events
from keptops.errors import NoExpressionFor
from keptops.evaluation import evaluate
from keptops.flat import depths, run_code
from keptops.forms import mergings
from keptops.likes import least_like
from keptops.logs import expression_of, open_answers
from keptops.needs import most_needed
from keptops.pairs import compare_programs
from keptops.programs import play
from keptops.progtexts import read_program
from keptops.runs import Run
from keptops.schemes import breaking, senses
from keptops.texts import expression_text, read_expression
from keptops.trees import parting, parting_test
from keptops.values import Expr


class ExamplesTest(unittest.TestCase):
    def test_evaluation_and_texts(self):
        expr = read_expression('f(a) and (b or g())')
        self.assertEqual(
            repr([evaluate(expr, {'a': 't', 'b': 'f'}, ['t', 't']), expression_text(expr)]),
            "[([('f', (('object', ('name', 'a')),)), ('g', ())], ('value', ('object', ('event', 1)))), "
            "'f(a) and (b or g())']",
        )

    def test_parting(self):
        found = [parting(read_expression('a and b or a'), read_expression('b if a else a'))]
        found += [parting_test(read_expression('not not a'), read_expression('a'))]
        self.assertEqual(repr(found), "[({'a': 't', 'b': 'f'}, []), None]")

    def test_mergings(self):
        found = [mergings(read_expression('f(a, b)'), read_expression('f(b, a)'))]
        found += [mergings(read_expression('a'), read_expression('none'))]
        self.assertEqual(repr(found), "[[(('a', 'b'),)], []]")

    def test_schemes(self):
        scheme = (read_expression('p() and (p() or q())'), read_expression('p()'))
        self.assertEqual(repr([senses(scheme), breaking(scheme, 'value')]), "[('pure', 'pure test'), ({}, ['t'])]")

    def test_logs(self):
        f, g = ('f', ()), ('g', ())
        first, second = ('object', ('event', 0)), ('object', ('event', 1))
        found = [open_answers([f, g]), open_answers([f, g, ('h', (second,))])]
        found += [open_answers([f, g, ('h', (first, ('none',)))])]
        self.assertEqual(repr(found), "[[0, 1], [0, 2], [2]]")
        with self.assertRaises(NoExpressionFor) as caught:
            expression_of([('f', ()), ('g', ()), ('h', (first,))], ('none',))
        self.assertEqual(caught.exception.index, 2)

    def test_flat_code(self):
        code = [('name', 'a'), ('jump_keep', 'false', 3), ('call', 'f', 0), ('jump_keep', 'true', 5), ('none',)]
        self.assertEqual(repr([depths(code), run_code(code, {'a': 't'}, ['f'])]),
                         "[[0, 1, 0, 1, 0, 1], ([('f', ())], ('value', ('none',)))]")

    def test_programs(self):
        p = read_program('program keep c none\nif c is none then\n  set c load()\nend\ngive c\n')
        self.assertEqual(
            repr(play(p, [((), ['x']), ((), ['t']), ((), [])])),
            "[([('load', ())], ('failed', 0), (('none',),)), "
            "([('load', ())], ('value', ('object', (1, ('event', 0)))), (('object', (1, ('event', 0))),)), "
            "([], ('value', ('object', (1, ('event', 0)))), (('object', (1, ('event', 0))),))]",
        )

    def test_what_is_kept(self):
        p = read_program('program keep c none\nif c is none then\n  set c load()\nend\ngive c\n')
        found = [least_like(p, [((), ['x']), ((), ['n']), ((), ['f']), ((), [])]), most_needed(p)]
        self.assertEqual(repr(found), "[([((), ['t'])], [((0, ('event', 0)), (2, ('event', 0)))]), (1, [((), ['t'])])]")

    def test_pairs(self):
        p = read_program('program keep c none\nif c is none then\n  set c load()\nend\ngive c\n')
        q = read_program('program keep c none\nset c c or load()\ngive c\n')
        r = read_program('program keep c none\nset c c ?? load()\ngive c\n')
        self.assertEqual(repr([compare_programs(p, q), compare_programs(p, r)[0]]),
                         "[('unlike', [((), ['f']), ((), [])]), 'alike']")

    def test_counts(self):
        p = read_program('program keep c none\nif c is none then\n  set c load()\nend\ngive c\n')
        levels = [(('none',), 1), (((0, 't'),), 0), (((0, 'f'),), 0)]
        found = [most_events(p, 'load')[0], check_most(p, 'load', ('most', 1, [((), ['t'])], levels), ('t', 'f'))]
        self.assertEqual(repr(found), "['endless', True]")

    def test_values(self):
        e = Expr.variable('a') & ~Expr.read('f(b)') | None
        self.assertEqual(repr([e.text, len(e), e.variables, Expr.read('f(b)') in e, e[(0, 1)].text]),
                         "['a and not f(b) or none', 7, ('a', 'b'), True, 'not f(b)']")

    def test_runs(self):
        p = read_program('program keep c none\nif c is none then\n  set c load()\nend\ngive c\n')
        run = Run(p)
        first = run((), ['n'])
        second = run((), ['t'])
        self.assertEqual(repr([first, len(run), run.holding()]),
                         "[([('load', ())], ('value', ('none',))), 2, (('object', (1, ('event', 0))),)]")
        self.assertEqual(second, ([('load', ())], ('value', ('object', (1, ('event', 0))))))


if __name__ == "__main__":
    unittest.main()
