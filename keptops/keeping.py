"""Programs that make a list of events with the fewest kept names."""

from keptops.errors import TooMany
from keptops.logs import Terms, check_events, names_in

# So many names are enough for each list: the first four answers can be kept, the last event has
# at most three operands, and so one name is free for the fifth answer.
KEPT_NAMES = ("a", "b", "c", "d")


def least_program(events):
    """A program with the fewest kept names that makes the events, and the answers with which it does."""
    check_events(events)
    if len(names_in(events, ("none",))) > 0:
        raise TooMany("a variable stands in the list")
    many = 0
    cuts = _cuts(events, many)
    while cuts is None:
        many += 1
        cuts = _cuts(events, many)
    kept = tuple([(name, "none") for name in KEPT_NAMES[:many]])
    return (((), kept, _rows(events, cuts)), ["t" for _ in events])


def _cuts(events, many):
    """The cuts between the rows of a program with so many kept names that makes the events, or None.

    The expression of one row makes the events from a cut to the next one. A cut is a tuple
    `(begin, held)`: the number of the event behind it, and the numbers of the answers that the
    kept names hold, in their order. Whatever else waits in an expression is lost when it ends,
    only its value, the answer of its last event, can be kept anew. Where nothing is kept anew
    the expression can as well go on, so no cuts are wanted there.
    """
    found = {(0, ()): [(0, ())]}
    waiting = [(0, ())]
    while len(waiting) > 0:
        begin, held = waiting.pop()
        end = begin + Terms(_told_from(events, begin, held)).possible
        if end == len(events):
            return found[(begin, held)]
        for behind in range(begin + 1, end + 1):
            for kept in _kept_with(held, behind - 1, many):
                if (behind, kept) not in found:
                    found[(behind, kept)] = [*found[(begin, held)], (behind, kept)]
                    waiting.append((behind, kept))
    return None


def _kept_with(held, answer, many):
    """All that so many names can hold when one of them gets the answer."""
    if len(held) < many:
        return [(*held, answer)]
    return [(*held[:at], answer, *held[at + 1:]) for at in range(many)]


def _told_from(events, begin, held):
    """The events behind a cut, as an expression there sees them, up to the first answer that is lost."""
    seen = {answer: ("name", KEPT_NAMES[at]) for at, answer in enumerate(held)}
    found = []
    for number, (word, values) in enumerate(events[begin:]):
        if not all([value[0] != "object" or value[1][1] in seen for value in values]):
            break
        found.append((word, tuple([_seen_value(value, seen) for value in values])))
        seen[begin + number] = ("event", number)
    return found


def _seen_value(value, seen):
    """A value with the source of an answer as it is seen."""
    return ("object", seen[value[1][1]]) if value[0] == "object" else value


def _rows(events, cuts):
    """The rows of the program with these cuts."""
    rows = []
    for at, (begin, held) in enumerate(cuts):
        told = _told_from(events, begin, held)
        if at + 1 == len(cuts):
            rows.append(("give", Terms(told).segment(0, len(told), ("none",))))
        else:
            end, kept = cuts[at + 1]
            name = KEPT_NAMES[kept.index(end - 1)]
            rows.append(("set", name, Terms(told[:end - begin]).segment(0, end - begin, None)))
    return tuple(rows)
