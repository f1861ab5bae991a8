"""Lists of events: which of them an expression can make, and one that does.

Each event is made by a *term*, an expression that ends with the event. A term makes, besides its
own event, those behind which answers wait for it: all events from a *start* on. An answer is
*open* as long as no later term starts at it or ahead of it, and it is no operand yet.
"""

from keptops.errors import InvalidEvents, InvalidValue, NoExpressionFor
from keptops.exprs import CONSTANTS, MOST_OPERANDS, MOST_VARIABLES, SIGNS, is_integer, is_name, variables_of

MOST_EVENTS = 6


def is_value(value, many):
    """Whether this is a value; the numbers of events in it are below `many`."""
    if not isinstance(value, tuple):
        return False
    if len(value) == 1:
        return value[0] in CONSTANTS
    return len(value) == 2 and value[0] == "object" and _is_source(value[1], many)


def _is_source(value, many):
    if not isinstance(value, tuple) or len(value) != 2:
        return False
    word, at = value
    return (word == "name" and is_name(at)) or (word == "event" and is_integer(at) and 0 <= at < many)


def _is_event(value, number):
    """Whether this is an event that may stand at this place of a list."""
    if not isinstance(value, tuple) or len(value) != 2 or not isinstance(value[1], tuple):
        return False
    word, values = value
    if word in SIGNS:
        right = len(values) == 2
    else:
        right = is_name(word) and len(values) <= MOST_OPERANDS
    return right and all([is_value(operand, number) for operand in values])


def check_events(events):
    """Raise InvalidEvents if the value is not a list of events."""
    if not isinstance(events, list) or len(events) > MOST_EVENTS:
        raise InvalidEvents("this is no list of so few events")
    if not all([_is_event(event, number) for number, event in enumerate(events)]):
        raise InvalidEvents("an item is not an event of this list")
    if len(names_in(events, ("none",))) > MOST_VARIABLES:
        raise InvalidEvents("too many variables")


def names_in(events, value):
    """The ascending list of the variables in the events and the value."""
    values = [value]
    for _, operands in events:
        values = values + list(operands)
    names = {}
    for one in values:
        if one[0] == "object" and one[1][0] == "name":
            names[one[1][1]] = True
    return sorted(list(names))


def _answer_of(value):
    """The number of the event whose answer the value is, or None."""
    return value[1][1] if value[0] == "object" and value[1][0] == "event" else None


def _answers_in(values):
    """The numbers of the events whose answers are among the values, in their order."""
    return [_answer_of(value) for value in values if _answer_of(value) is not None]


class Terms:
    """The terms of a list of events, which is known to be one.

    For each event up to `possible`, how many can be made one behind the other, `starts` has the
    start of its term, and `ahead` the number of the link ahead of it in a comparison, or None.
    `waiting` has the numbers of the answers that are open behind these events.
    """

    def __init__(self, events):
        self.events = events
        self.starts = []
        self.ahead = []
        self.waiting = []
        for number in range(len(events)):
            if not self._goes_on(number):
                break
        self.possible = len(self.starts)

    def _goes_on(self, number):
        """Whether the event with this number, the next one, can be made; if so, its term is added."""
        _, values = self.events[number]
        used = _answers_in(values)
        link = self._link_ahead(number)
        if link is not None:
            # The left operand has waited since the link ahead, whose answer is gone with this link.
            used = [link, *used[1:]]
        if not all([answer in self.waiting for answer in used]):
            return False
        if not all([one < other for one, other in zip(used, used[1:])]):
            return False
        # Behind a last operand that is an answer nothing can happen ahead of the event itself.
        if len(values) > 0 and _answer_of(values[-1]) not in (None, number - 1):
            return False
        start = self.starts[used[0]] if len(used) > 0 else number
        self.starts.append(start)
        self.ahead.append(link)
        self.waiting = [*[answer for answer in self.waiting if answer < start], number]
        return True

    def _link_ahead(self, number):
        """The open link of which the left operand of this event is the right operand, or None.

        The right operand of a link is a constant or a variable, or the answer right ahead of it.
        """
        word, values = self.events[number]
        left = _answer_of(values[0]) if word in SIGNS else None
        if left is None or left + 1 not in self.waiting:
            return None
        sign, ahead = self.events[left + 1]
        return left + 1 if sign in SIGNS and ahead[1] == values[0] else None

    def segment(self, begin, end, leaf):
        """The expression that makes the events from begin up to end and has the value of the leaf.

        If leaf is None, its value is the answer of the last one of the events.
        """
        terms = [] if leaf is None else [leaf]
        while end > begin:
            terms = [self._term(end - 1), *terms]
            end = self.starts[end - 1]
        # All events are answered by an object that is true, so `and` goes on behind each term.
        expr = terms[0]
        for term in terms[1:]:
            expr = ("and", expr, term)
        return expr

    def _term(self, number):
        """The term of the event with this number."""
        word, values = self.events[number]
        link = self.ahead[number]
        if link is not None:
            _, first, links = self._term(link)
            right = self._operands(values[1:], link + 1, number)[0]
            return ("compare", first, (*links, (word, right)))
        operands = self._operands(values, self.starts[number], number)
        if word in SIGNS:
            return ("compare", operands[0], ((word, operands[1]),))
        return ("call", word, tuple(operands))

    def _operands(self, values, begin, end):
        """The operands with these values, which make the events from begin up to end."""
        found = []
        for at, value in enumerate(values):
            answer = _answer_of(value)
            if answer is not None:
                behind = answer + 1
            else:
                # Events behind the last answer happen as soon as an operand has room for them.
                behind = end if len(_answers_in(values[at:])) == 0 else begin
            found.append(self.segment(begin, behind, leaf_of(value)))
            begin = behind
        return found


def leaf_of(value):
    """The variable or constant with this value, or None if the value is an answer."""
    if value[0] != "object":
        return value
    return value[1] if value[1][0] == "name" else None


def terms_of(events):
    """The terms of a possible list; raise InvalidEvents or NoExpressionFor for anything else."""
    check_events(events)
    terms = Terms(events)
    if terms.possible < len(events):
        raise NoExpressionFor(terms.possible)
    return terms


def open_answers(events):
    """The numbers of the answers that a call behind these events can still use."""
    return list(terms_of(events).waiting)


def expression_of(events, value):
    """An expression that makes these events and this value, with kinds and answers for which it does."""
    check_events(events)
    if not is_value(value, len(events)) or len(names_in(events, value)) > MOST_VARIABLES:
        raise InvalidValue("this is no value behind these events")
    terms = terms_of(events)
    if _answer_of(value) not in (None, len(events) - 1):
        raise NoExpressionFor(len(events))
    expr = terms.segment(0, len(events), leaf_of(value))
    kinds = {name: "t" for name in variables_of([expr])}
    return (expr, kinds, ["t" for _ in events])
