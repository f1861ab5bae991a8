"""Machines, which hold objects in places: what they do, and one that does what a program does and holds no more."""

from keptops.errors import InvalidMachine
from keptops.evaluation import ANSWERS, KINDS, held_constant, held_object
from keptops.exprs import CONSTANTS, MOST_OPERANDS, MOST_PLACES, SIGNS, is_integer, is_name
from keptops.histories import sources_of
from keptops.needs import Needs, count_objects, survey_of
from keptops.programs import MOST_PARAMETERS, check_history
from keptops.states import kinds_of, state_of, values_of
from keptops.survey import held_with, told_with

MOST_STATES = 2000
MOST_HELD = 8
MOST_TREE_LEVELS = 30
# The words for objects in machines, by those in surveys.
OPERAND_WORDS = {"kept": "place", "name": "parameter", "event": "event"}


def check_machine(machine):
    """Raise InvalidMachine if the value is not a machine."""
    if not isinstance(machine, tuple) or len(machine) != 3:
        raise InvalidMachine("these are not three parts")
    parameters, begin, states = machine
    if not isinstance(parameters, tuple) or len(parameters) > MOST_PARAMETERS:
        raise InvalidMachine("the parameters are wrong")
    if not all([is_name(name) and name not in parameters[:at] for at, name in enumerate(parameters)]):
        raise InvalidMachine("a parameter is no name, or both are the same")
    if not isinstance(states, tuple) or not 1 <= len(states) <= MOST_STATES:
        raise InvalidMachine("the states are wrong")
    if not all([_is_machine_state(value) for value in states]):
        raise InvalidMachine("a state is wrong")
    if not _is_number(begin, len(states)) or states[begin][0] != 0:
        raise InvalidMachine("the machine cannot begin there")
    places_of_states = [places for places, _ in states]
    for places, tree in states:
        _check_tree(tree, Room(len(parameters), places_of_states, places), (), 1)


def _is_machine_state(value):
    """Whether this is built like a state, whatever its tree is."""
    return isinstance(value, tuple) and len(value) == 2 and _is_number(value[0], MOST_HELD + 1)


def _is_number(value, many):
    """Whether this is the number of one of so many things."""
    return is_integer(value) and 0 <= value < many


class Room:
    """What a tree can name: so many parameters, states with so many places, and the places of its own state."""

    def __init__(self, parameters, states, places):
        self.parameters = parameters
        self.states = states
        self.places = places


def _check_tree(tree, room, happened, level):
    """Raise InvalidMachine if the value is no tree; `happened` tells for each event on the way whether it failed."""
    if level > MOST_TREE_LEVELS or not isinstance(tree, tuple) or len(tree) == 0:
        raise InvalidMachine("this is not a tree")
    if tree[0] == "end" and len(tree) == 4:
        _check_end(tree, room, happened)
    elif tree[0] == "test" and len(tree) == 3:
        if not _is_object(tree[1], room, happened) or not _is_tuple_of(tree[2], len(KINDS)):
            raise InvalidMachine("a test is wrong")
        for behind in tree[2]:
            _check_tree(behind, room, happened, level + 1)
    elif tree[0] == "ask" and len(tree) == 4:
        _, word, operands, behind = tree
        if len(happened) == MOST_PLACES or not _are_operands(word, operands, room, happened):
            raise InvalidMachine("an event is wrong, or there are too many")
        if not _is_tuple_of(behind, 2):
            raise InvalidMachine("there are not two trees behind an event")
        _check_tree(behind[0], room, (*happened, False), level + 1)
        _check_tree(behind[1], room, (*happened, True), level + 1)
    else:
        raise InvalidMachine("this is not a tree")


def _is_tuple_of(value, many):
    return isinstance(value, tuple) and len(value) == many


def _check_end(tree, room, happened):
    """Raise InvalidMachine if an end is wrong."""
    _, outcome, following, hold = tree
    if not _is_tuple_of(outcome, 2) or not _is_outcome(outcome, room, happened):
        raise InvalidMachine("this is not an outcome")
    if not _is_number(following, len(room.states)) or not _is_tuple_of(hold, room.states[following]):
        raise InvalidMachine("there is no such state, or it has another number of places")
    if not all([_is_object(value, room, happened) for value in hold]):
        raise InvalidMachine("what is held is no object")


def _is_outcome(outcome, room, happened):
    """Whether a tuple of two is an outcome."""
    word, value = outcome
    if word == "failed":
        return _is_number(value, len(happened)) and happened[value]
    return word == "value" and _is_operand(value, room, happened)


def _are_operands(word, values, room, happened):
    """Whether these are a word and operands of an event."""
    if not isinstance(values, tuple) or not all([_is_operand(value, room, happened) for value in values]):
        return False
    if is_name(word):
        return len(values) <= MOST_OPERANDS
    return word in SIGNS and len(values) == 2


def _is_operand(value, room, happened):
    """Whether this is an operand here."""
    if _is_tuple_of(value, 1):
        return value[0] in CONSTANTS
    return _is_object(value, room, happened)


def _is_object(value, room, happened):
    """Whether this is an operand that is an object: a place, a parameter, or an event that was answered."""
    if not _is_tuple_of(value, 2):
        return False
    word, number = value
    if word == "place":
        return _is_number(number, room.places)
    if word == "parameter":
        return _is_number(number, room.parameters)
    return word == "event" and _is_number(number, len(happened)) and not happened[number]


class MachineCall:
    """One call of a machine. An object is a tuple of its source and its kind here."""

    def __init__(self, machine, number, held, call):
        kinds, answers = call
        self.number = number
        self.answers = answers
        self.events = []
        self.objects = {
            "place": held,
            "parameter": [((number, ("name", name)), kind) for name, kind in zip(machine[0], kinds)],
            "event": [((number, ("event", at)), kind) for at, kind in enumerate(answers)],
        }

    def value(self, operand):
        """The value of an operand."""
        if operand[0] in CONSTANTS:
            return operand
        source, kind = self.object_at(operand)
        return held_object(source, kind)[0]

    def object_at(self, operand):
        """The object of an operand."""
        word, at = operand
        return self.objects[word][at]

    def end_of(self, tree):
        """Go through a tree up to its end, which is returned, or None where an answer is wanting."""
        while tree[0] != "end":
            if tree[0] == "test":
                tree = tree[2][KINDS.index(self.object_at(tree[1])[1])]
            else:
                at = len(self.events)
                self.events.append((tree[1], tuple([self.value(operand) for operand in tree[2]])))
                if at == len(self.answers):
                    return None
                tree = tree[3][1 if self.answers[at] == "x" else 0]
        return tree


def run_machine(machine, history):
    """The events and the outcome of each call of a machine, up to one that is wanting."""
    check_machine(machine)
    check_history(machine, history)
    state = machine[1]
    held = []
    told = []
    for number, call in enumerate(history):
        run = MachineCall(machine, number, held, call)
        end = run.end_of(machine[2][state][1])
        if end is None:
            told.append((run.events, ("wanting",)))
            break
        _, outcome, state, hold = end
        told.append((run.events, outcome if outcome[0] == "failed" else ("value", run.value(outcome[1]))))
        held = [run.object_at(operand) for operand in hold]
    return told


class Builder:
    """Makes a machine of a program.

    What it holds is told by states of the program in which the constant of its kind stands for each
    object that is not needed, as such an object is never shown. The number of an object in the state
    is its place.
    """

    def __init__(self, survey):
        self.survey = survey
        self.needs = Needs(survey)
        self.states = [survey.begin]
        self.numbers = {survey.begin: 0}

    def tests(self, state, kinds):
        """The tree behind a state where the first parameters have these kinds."""
        if len(kinds) == len(self.survey.parameters):
            return self.asks(state, kinds, ())
        return _test(("parameter", len(kinds)), [self.tests(state, (*kinds, kind)) for kind in KINDS])

    def asks(self, state, kinds, answers):
        """The tree behind these kinds of the parameters and these answers."""
        moment = self.survey.moments(kinds_of(state), kinds)[answers]
        told = told_with(moment.told, values_of(state))
        if told[0] == "ask":
            behind = [self.asks(state, kinds, (*answers, answer)) for answer in ANSWERS]
            answered = _test(("event", len(answers)), behind[:len(KINDS)])
            return ("ask", told[1], tuple([_operand_of(value) for value in told[2]]), (answered, behind[-1]))
        outcome = ("value", _operand_of(told[1])) if told[0] == "value" else told
        held = held_with(moment.holds, self.survey.names, values_of(state))
        sources = sources_of(held)
        needed = self.needs.needed_numbers(state_of(held))
        hold = tuple([_operand_of(("object", sources[number])) for number in needed])
        return ("end", outcome, self._number_of(_without_others(state_of(held), needed)), hold)

    def _number_of(self, state):
        """The number of a state, which is a new one where it has none."""
        if state not in self.numbers:
            self.numbers[state] = len(self.states)
            self.states.append(state)
        return self.numbers[state]


def _test(operand, trees):
    """A tree that goes on with one of the trees, or the tree itself where they are equal."""
    if trees[0] == trees[1] and trees[1] == trees[2]:
        return trees[0]
    return ("test", operand, tuple(trees))


def _operand_of(value):
    """The operand of a machine for a value that is told in a survey."""
    if value[0] != "object":
        return value
    word, at = value[1]
    return (OPERAND_WORDS[word], at)


def _without_others(state, needed):
    """A state in which only the objects with these numbers are left."""
    held = []
    for entry in state:
        if not isinstance(entry, tuple):
            held.append(((entry,), None))
        elif entry[0] in needed:
            held.append((("object", entry[0]), entry[1]))
        else:
            held.append((held_constant(entry[1] == "t")[0], None))
    return state_of(held)


def machine(program):
    """A machine that tells the same as the program, and in no state holds more than must be kept."""
    builder = Builder(survey_of(program))
    states = []
    while len(states) < len(builder.states):
        state = builder.states[len(states)]
        states.append((count_objects(state), builder.tests(state, ())))
    return (program[0], 0, tuple(states))
