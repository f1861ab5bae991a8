"""All calls of a program behind a state, without a look at which of the objects are the same.

How a call goes on depends on the kinds of what names hold alone. So the calls are gone through
once for kinds of the kept names, and then told for each state with these kinds: there the source
`("kept", k)` stands for what the k-th kept name held, and `("name", k)` for the k-th parameter.
"""

from keptops.evaluation import KINDS, holds_of
from keptops.exprs import variables_of
from keptops.programs import kept_names, steps_of
from keptops.states import CONSTANT_KINDS, Reached, begin_state, kinds_of, state_of, values_of
from keptops.trees import tree_of


class Moment:
    """How far a call comes with just these answers.

    `told` is `("ask", word, values)` for an event that wants an answer, or the outcome. `holds`
    is what the names hold at the end of the call, None if an answer is wanted. `begun` is what
    they hold when the row that is watched begins behind the last one of these answers, or None.
    """

    def __init__(self, told, holds, begun):
        self.told = told
        self.holds = holds
        self.begun = begun


class Way:
    """A way through a call: the row where it is, what names hold, and the answers so far.

    `tree` is what is left of the call tree of the row's expression, or None ahead of the row;
    the events of the tree are numbered from `base` on in the call. What is held is a tuple of a
    value and its kind.
    """

    def __init__(self, at, holds, answers, tree, base):
        self.at = at
        self.holds = holds
        self.answers = answers
        self.tree = tree
        self.base = base

    def held(self, value):
        """What a value of the tree is in the call."""
        if value[0] != "object":
            return (value, CONSTANT_KINDS[value[0]])
        word, at = value[1]
        if word == "name":
            return self.holds[at]
        number = self.base + at
        return (("object", ("event", number)), self.answers[number])


class Survey:
    """The calls of a program, perhaps with a look at one of its rows."""

    def __init__(self, program, row):
        self.parameters = program[0]
        self.names = kept_names(program)
        self.begin = begin_state([program])
        self.row = row
        self.steps = steps_of(program)
        self.names_by_row = [[] if step.expr is None else variables_of([step.expr]) for step in self.steps]
        self.all_kinds = [()]
        for _ in self.parameters:
            self.all_kinds = [(*kinds, kind) for kinds in self.all_kinds for kind in KINDS]
        self.trees = {}
        self.found = {}

    def moments(self, kept_kinds, kinds):
        """All moments of calls with these kinds of the kept names and the parameters, by their answers.

        They are ordered as calls are: by the number of the answers, then by the answers.
        """
        key = (kept_kinds, kinds)
        if key not in self.found:
            self.found[key] = self._all_moments(kept_kinds, kinds)
        return self.found[key]

    def state_at(self, moment, state):
        """The state at the end of a call that began behind another state."""
        return state_of(held_with(moment.holds, self.names, values_of(state)))

    def complete_calls(self, state):
        """The complete calls behind a state in order, each in a tuple with the state at its end."""
        return [
            ((kinds, answers), self.state_at(moment, state))
            for kinds in self.all_kinds
            for answers, moment in self.moments(kinds_of(state), kinds).items()
            if moment.holds is not None
        ]

    def reached(self):
        """All states that come behind complete calls, each with the least history that leads to it."""
        reached = Reached(self.begin)
        at = 0
        while at < len(reached.states):
            state = reached.states[at]
            for call, following in self.complete_calls(state):
                reached.add(following, state, call)
            at += 1
        return reached

    def _all_moments(self, kept_kinds, kinds):
        holds = {}
        for at, name in enumerate(self.parameters):
            holds[name] = _first_held("name", at, kinds[at])
        for at, name in enumerate(self.names):
            holds[name] = _first_held("kept", at, kept_kinds[at])
        found = {}
        ways = [Way(0, holds, (), None, 0)]
        while len(ways) > 0:
            behind = []
            for way in ways:
                moment = self._next_moment(way)
                found[way.answers] = moment
                if moment.holds is None:
                    behind.extend(self._answered(way))
            ways = behind
        return found

    def _answered(self, way):
        """The ways behind the event that a way has come to."""
        ways = []
        for at, kind in enumerate(KINDS):
            ways.append(Way(way.at, way.holds, (*way.answers, kind), way.tree[2][at], way.base))
        ways.append(Way(way.at, way.holds, (*way.answers, "x"), ("failed",), way.base))
        return ways

    def _next_moment(self, way):
        """Go on to the next event or the end of the call."""
        begun = None
        while way.at < len(self.steps):
            step = self.steps[way.at]
            if way.tree is None:
                if way.at == self.row:
                    begun = way.holds
                way.tree = self._tree(way)
                way.base = len(way.answers)
            if way.tree[0] == "ask":
                word, values = way.tree[1]
                return Moment(("ask", word, tuple([way.held(value)[0] for value in values])), None, begun)
            if way.tree[0] == "failed":
                if step.failed is None:
                    return Moment(("failed", len(way.answers) - 1), way.holds, begun)
                way.at = step.failed
            else:
                value, kind = way.held(way.tree[1])
                if step.word == "give":
                    return Moment(("value", value), way.holds, begun)
                if step.word == "set":
                    way.holds = {**way.holds, step.name: (value, kind)}
                way.at = step.then if kind == "t" else step.other
            way.tree = None
        return Moment(("value", ("none",)), way.holds, begun)

    def _tree(self, way):
        """The call tree of the row where the way is; of a `try` any value does."""
        step = self.steps[way.at]
        if step.expr is None:
            return ("done", ("none",))
        names = self.names_by_row[way.at]
        key = (way.at, tuple([way.holds[name][1] for name in names]))
        if key not in self.trees:
            kinds = {name: way.holds[name][1] for name in names}
            self.trees[key] = tree_of(step.expr, holds_of(kinds, names))
        return self.trees[key]


def _first_held(word, at, kind):
    """What a name holds when a call begins."""
    return (("none",), kind) if kind == "n" else (("object", (word, at)), kind)


def told_with(told, values):
    """What is told at a moment, with the values of the kept names in the places of their sources."""
    if told[0] == "ask":
        return (*told[:2], tuple([value_with(value, values) for value in told[2]]))
    if told[0] == "value":
        return ("value", value_with(told[1], values))
    return told


def value_with(value, values):
    """A value, with that of a kept name in the place of its source."""
    return values[value[1][1]] if value[0] == "object" and value[1][0] == "kept" else value


def held_with(holds, names, values):
    """What the names hold, each in a tuple with its kind, with the values of the kept names."""
    return [(value_with(holds[name][0], values), holds[name][1]) for name in names]
