"""Promise [19a]: programs that make a list of events with the fewest kept names."""

import functools
import itertools
import random
import unittest

from helper import Case, Grammar, NONE, Played, SIGNS, TRUE, answer, bad_events, name, next_events, obj
from keptops.errors import InvalidEvents, NoExpressionFor, TooMany
from keptops.keeping import least_program
from keptops.logs import expression_of, open_answers

F, G, H = ("f", ()), ("g", ()), ("h", ())


def makes_with(events, many):
    """Whether a program with so many kept names makes the list, by going through what its rows can do.

    Each row's expression makes some events, while its names hold answers, and has some value,
    which may be kept then. (A row in which an event fails does no more than one without.)
    """
    @functools.cache
    def goes_on(begin, held):
        if begin == len(events):
            return True
        grammar = Grammar(events, held)
        for end in range(begin + 1, len(events) + 1):
            values = [answer(number) for number in range(end)]
            values = [value for value in values if grammar.makes(begin, end, value)]
            if not values and not grammar.makes(begin, end, NONE):
                break
            could = {*held, *[value[1][1] for value in values]}
            for kept in itertools.combinations(sorted(could), min(many, len(could))):
                if len(set(kept) - set(held)) <= 1 and goes_on(end, frozenset(kept)):
                    return True
        return False

    return goes_on(0, frozenset())


def fewest(events):
    return next(many for many in range(5) if makes_with(events, many))


def plain(told):
    """Events with sources that do not tell the number of the call."""
    return [(word, tuple(obj(*value[1][1]) if value[0] == "object" else value for value in values))
            for word, values in told]


class KeepingCase(Case):
    def check_program_of(self, events):
        program, answers = least_program(events)
        self.assertEqual(program[0], ())
        self.assertEqual(len(answers), len(events))
        call = Played(program, [((), answers)]).calls[0]
        self.assertEqual(plain(call.events), events)
        self.assertNotEqual(call.outcome, ("wanting",))
        self.assertEqual(len(program[1]), fewest(events))
        return len(program[1])


class LeastProgramTest(KeepingCase):
    def test_small_ones(self):
        cases = [
            ([], 0), ([F], 0), ([F, G], 0), ([F, ("g", (answer(0),))], 0), ([F, ("g", (answer(0), answer(0)))], 1),
            ([F, G, ("h", (answer(0),))], 1), ([F, G, ("h", (answer(1), answer(0)))], 1),
            ([F, G, ("h", (answer(0), NONE))], 0), ([F, ("<", (NONE, answer(0))), ("<", (answer(0), TRUE))], 0),
            ([F, ("g", (answer(0), NONE)), ("h", (answer(0), NONE))], 1),
            ([F, G, ("h", (answer(1), answer(0), answer(1)))], 2),
            ([F, G, H, ("h", (answer(2), answer(1), answer(0)))], 2),
            ([F, ("<", (answer(0), answer(0)))], 1), ([F, G, ("g", (answer(0),)), ("g", (answer(1),)),
                ("h", (answer(0),))], 2),
        ]
        for events, many in cases:
            self.check_call(least_program, events)
            self.assertEqual(fewest(events), many)
            self.check_program_of(events)

    def test_four_names(self):
        three = ("g", (answer(0), answer(1), answer(2)))
        events = [F, G, H, F, ("g", (answer(2), answer(1), answer(0))), ("h", (answer(3), answer(3), answer(0)))]
        self.assertEqual(self.check_program_of(events), 4)
        self.check_call(least_program, events)
        self.assertEqual(self.check_program_of([F, G, H, three, three, three]), 3)
        self.assertEqual(self.check_program_of([F, G, H, F, ("g", (answer(3), answer(2), answer(1))), three]), 3)

    def test_all_lists_of_up_to_three_events(self):
        level = [[]]
        seen = {0: 0, 1: 0, 2: 0}
        for number in range(3):
            level = [[*events, event] for events in level for event in next_events(number, (), 3 if number == 2 else 2)]
            for events in level:
                seen[self.check_program_of(events)] += 1
        self.assertGreater(min(seen.values()), 0)

    def test_many_lists(self):
        source = random.Random(41)
        seen = {number: 0 for number in range(5)}
        for _ in range(500):
            many = source.randint(3, 6)
            events = []
            for number in range(many):
                word = source.choice(["f", "g", "h", "<", ">"])
                places = 2 if word in SIGNS else source.randint(0, 3)
                values = [NONE] + [answer(at) for at in range(number)] * 3
                events.append((word, tuple(source.choice(values) for _ in range(places))))
            seen[self.check_program_of(events)] += 1
        self.assertGreater(min([seen[number] for number in range(4)]), 5)

    def test_no_name_where_there_is_an_expression(self):
        source = random.Random(42)
        for _ in range(300):
            events = []
            for number in range(source.randint(1, 5)):
                events.append(source.choice(next_events(number, (), 2)))
            try:
                expression_of(events, NONE)
                possible = True
            except NoExpressionFor:
                possible = False
            self.assertEqual(possible, len(least_program(events)[0][1]) == 0)

    def test_at_the_bounds(self):
        """Six events, with as many operands as they can have."""
        source = random.Random(43)
        for _ in range(200):
            events = [("f", tuple(source.choice([answer(at) for at in range(number)] or [NONE]) for _ in range(3)))
                      for number in range(6)]
            self.check_program_of(events)
        self.check_call(least_program, [F, *[("f", (answer(number),) * 3) for number in range(5)]])
        self.check_call(least_program, [F] * 6)
        self.check_call(least_program, [("<", (NONE, TRUE))] * 6)


class ErrorsTest(KeepingCase):
    def test_no_lists_of_events(self):
        for events in bad_events():
            self.check_error(InvalidEvents, least_program, events)

    def test_variables(self):
        for events in [[("f", (name("a"),))], [F, G, ("<", (NONE, name("z")))], [("f", (name("a"), name("b")))] * 6]:
            self.check_error(TooMany, least_program, events)
        # Also where no expression makes the list.
        self.check_error(TooMany, least_program, [F, ("g", (answer(0), answer(0))), ("h", (name("a"),))])
        self.assertRaises(NoExpressionFor, open_answers, [F, ("g", (answer(0), answer(0)))])

    def test_wrong_events_come_ahead_of_variables(self):
        self.check_error(InvalidEvents, least_program, [("f", (name("a"),)), ("g", (answer(1),))])
        self.check_error(InvalidEvents, least_program, [("f", (name("a"),))] * 7)


if __name__ == "__main__":
    unittest.main()
