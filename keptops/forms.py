"""The one form of an expression, the worlds behind its call trees, and mergings of variables."""

from keptops.errors import InvalidNumber
from keptops.evaluation import KINDS, held_object, holds_of
from keptops.exprs import is_integer, variables_of
from keptops.trees import all_kinds, check_surveyable, tree_of


def form(expr):
    """The canonical form: expressions are alike just if their forms are equal."""
    check_surveyable([expr])
    return _form(expr, variables_of([expr]), {})


def _form(expr, names, kinds):
    """The form with these kinds of the variables ahead of the names."""
    if len(names) == 0:
        return ("tree", tree_of(expr, holds_of(kinds, list(kinds))))
    name = names[0]
    below = [_form(expr, names[1:], {**kinds, name: kind}) for kind in KINDS]
    if below[0] == below[1] and below[1] == below[2]:
        return below[0]
    return ("split", name, tuple(below))


def _worlds(expr):
    """All kinds of the variables, in order, each in a tuple with the call tree behind it."""
    check_surveyable([expr])
    names = variables_of([expr])
    return [(kinds, tree_of(expr, holds_of(kinds, names))) for kinds in all_kinds(names)]


def matters(expr):
    """For each variable that matters, kinds of all variables and another kind of it that changes the tree."""
    worlds = _worlds(expr)
    found = {}
    for name in variables_of([expr]):
        change = _first_change(name, worlds)
        if change is not None:
            found[name] = change
    return found


def _first_change(name, worlds):
    """The first kinds, and the first other kind of the name, with different trees; or None."""
    for kinds, tree in worlds:
        for other_kinds, other_tree in worlds:
            if other_tree != tree and {**kinds, name: other_kinds[name]} == other_kinds:
                return (dict(kinds), other_kinds[name])
    return None


def count_worlds(expr, tree):
    """For how many kinds of the variables the call tree is this one."""
    return len(_worlds_behind(expr, tree))


def nth_world(expr, tree, n):
    """The kinds with the number n among those for which the call tree is this one."""
    found = _worlds_behind(expr, tree)
    if not is_integer(n) or not 0 <= n < len(found):
        raise InvalidNumber("no kinds have this number")
    return found[n]


def _worlds_behind(expr, tree):
    return [kinds for kinds, behind in _worlds(expr) if behind == tree]


def trees(expr):
    """All call trees that come, in the order in which they come first."""
    found = []
    for _, tree in _worlds(expr):
        if tree not in found:
            found.append(tree)
    return found


def mergings(one, other):
    """The finest mergings of the variables under which the two are alike, ascending."""
    check_surveyable([one, other])
    right = [merging for merging in _all_mergings(variables_of([one, other])) if _alike_under(merging, one, other)]
    return sorted([merging for merging in right if not any([_is_finer(finer, merging) for finer in right])])


def _all_mergings(names):
    """All mergings of ascending names: each name joins a group of those ahead, or begins one."""
    found = [()]
    for name in names:
        longer = []
        for merging in found:
            for at, group in enumerate(merging):
                longer.append((*merging[:at], (*group, name), *merging[at + 1:]))
            longer.append((*merging, (name,)))
        found = longer
    return found


def _is_finer(one, other):
    """Whether the first merging is another one, each of whose groups is a part of one of the second's."""
    return one != other and all([any([_is_part(group, whole) for whole in other]) for group in one])


def _is_part(group, whole):
    return all([name in whole for name in group])


def _alike_under(merging, one, other):
    """Whether the two have equal trees where the variables of each group hold one object."""
    for kinds in all_kinds([group[0] for group in merging]):
        holds = {}
        for group in merging:
            for name in group:
                holds[name] = held_object(("name", group[0]), kinds[group[0]])
        if tree_of(one, holds) != tree_of(other, holds):
            return False
    return True
