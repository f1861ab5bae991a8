"""Expressions as values, which are built by operators and methods."""

from keptops.errors import NotPure
from keptops.evaluation import KINDS, evaluate, run_once
from keptops.exprs import all_parts, check_expression, places_of, variables_of
from keptops.forms import form
from keptops.parts import part_at
from keptops.texts import expression_text, read_expression
from keptops.trees import all_kinds, call_tree, check_surveyable, parting


class Expr:
    """An expression that does not change. None, True and False may stand for constants beside it."""

    def __init__(self, data):
        check_expression(data)
        self._data = data

    @classmethod
    def read(cls, text):
        """The expression that a text tells."""
        return cls(read_expression(text))

    @staticmethod
    def variable(x):
        """The variable x."""
        return Expr(("name", x))

    @staticmethod
    def constant(value):
        """The constant for None, True or False."""
        return Expr(_data_of(value))

    @staticmethod
    def call(f, *operands):
        """A call of the function f."""
        return Expr(("call", f, tuple([_data_of(operand) for operand in operands])))

    @property
    def data(self):
        """The tuple of the expression."""
        return self._data

    @property
    def text(self):
        """The text with the fewest brackets."""
        return expression_text(self._data)

    @property
    def variables(self):
        """The ascending tuple of the variables."""
        return tuple(variables_of([self._data]))

    @property
    def pure(self):
        """Whether there are no calls and no comparisons."""
        return places_of(self._data) == 0

    def canonical(self):
        """The canonical form."""
        return form(self._data)

    def alike(self, other):
        """Whether both do the same for every input."""
        return parting(self._data, other.data) is None

    def choose(self, yes, no):
        """The one operand if this is true, else the other one."""
        return Expr(("if", self._data, _data_of(yes), _data_of(no)))

    def default(self, other):
        """This, unless it is none; else the operand."""
        return Expr(("default", self._data, _data_of(other)))

    def is_none(self):
        """The test for none."""
        return Expr(("isnone", self._data))

    def compare(self, *links):
        """The comparison with the operands of links, each of them a tuple of a sign and an operand."""
        return Expr(("compare", self._data, tuple([(sign, _data_of(operand)) for sign, operand in links])))

    def implies(self, other):
        """Whether the other one is true wherever this is."""
        if not self.pure or not other.pure:
            raise NotPure("an expression has event places")
        check_surveyable([self._data, other.data])
        worlds = all_kinds(variables_of([self._data, other.data]))
        return all([_is_true(other.data, kinds) for kinds in worlds if _is_true(self._data, kinds)])

    def runs(self, **kinds):
        """All complete runs with these kinds of the variables, in order."""
        waiting = [([], call_tree(self._data, kinds))]
        while len(waiting) > 0:
            answers, tree = waiting.pop()
            if tree[0] == "ask":
                # What is put there last is taken first.
                waiting.append(([*answers, "x"], ("failed",)))
                for kind, behind in reversed(list(zip(KINDS, tree[2]))):
                    waiting.append(([*answers, kind], behind))
            else:
                yield answers

    def __call__(self, kinds, answers=()):
        """The events and the outcome, for kinds of the variables and a list or tuple of answers."""
        return evaluate(self._data, kinds, list(answers) if isinstance(answers, tuple) else answers)

    def __and__(self, other):
        return Expr(("and", self._data, _data_of(other)))

    def __rand__(self, other):
        return Expr(("and", _data_of(other), self._data))

    def __or__(self, other):
        return Expr(("or", self._data, _data_of(other)))

    def __ror__(self, other):
        return Expr(("or", _data_of(other), self._data))

    def __invert__(self):
        return Expr(("not", self._data))

    def __eq__(self, other):
        return isinstance(other, Expr) and self._data == other._data

    def __len__(self):
        return len(all_parts(self._data))

    def __contains__(self, part):
        return isinstance(part, Expr) and part._data in all_parts(self._data)

    def __getitem__(self, path):
        return Expr(part_at(self._data, path))

    # Without this, Python would take the numbers from 0 on for paths.
    def __iter__(self):
        raise TypeError("an expression is not iterated over")


def _data_of(operand):
    """The tuple of an operand: of an expression, or of the constant that None, True or False stands for."""
    if operand is None:
        return ("none",)
    if operand is True:
        return ("true",)
    if operand is False:
        return ("false",)
    return operand.data


def _is_true(data, kinds):
    """Whether an expression without event places is true with these kinds."""
    _, end = run_once(data, kinds, [])
    return end[1][1]
