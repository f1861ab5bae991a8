"""Promises [18] and [19]: which lists of events an expression can make, and one that does."""

import itertools
import random
import unittest

import helper
from helper import (
    A, B, Case, FALSE, Grammar, NONE, SIGNS, TRUE, answer, bad_events, call, compare, name, next_events, told,
)
from keptops.errors import InvalidEvents, InvalidValue, NoExpressionFor
from keptops.exprs import check_expression, variables
from keptops.evaluation import evaluate
from keptops.logs import expression_of, open_answers
from keptops.texts import expression_text

F, G = ("f", ()), ("g", ())


def first_impossible(events):
    """The number of the first event with which the list is not possible, or None."""
    for number in range(len(events)):
        if not Grammar(events[:number + 1]).possible():
            return number
    return None


def open_in(events):
    """What open_answers is to return for a possible list."""
    found = []
    for number in range(len(events)):
        if Grammar([*events, ("q", (answer(number), NONE))]).possible():
            found.append(number)
    return found


def names_among(events, *values):
    return {value[1][1] for _, operands in [*events, ("", values)] for value in operands
            if value[0] == "object" and value[1][0] == "name"}


def some_event(source, number):
    """An event that often uses answers that are near."""
    def value():
        if number > 0 and source.random() < 0.6:
            return answer(max(0, number - 1 - int(source.expovariate(0.9))))
        return source.choice([NONE, TRUE, FALSE, name("a"), name("b")])

    word = source.choice(["f", "g", "h", *SIGNS[:3]])
    return (word, tuple(value() for _ in range(2 if word in SIGNS else source.randint(0, 3))))


class LogsCase(Case):
    def check_list(self, events):
        """Compare with all ways to build an expression; the events ahead of the last one are possible."""
        if not Grammar(events).possible():
            self.check_error(NoExpressionFor, open_answers, events, index=len(events) - 1)
            self.check_error(NoExpressionFor, expression_of, events, NONE, index=len(events) - 1)
            return False
        self.assertEqual(open_answers(events), open_in(events))
        return True

    def check_value(self, events, value):
        """The expression of a possible list makes it with the value, if one does."""
        if not Grammar(events).makes(0, len(events), value):
            self.check_error(NoExpressionFor, expression_of, events, value, index=len(events))
            return
        expr, kinds, answers = expression_of(events, value)
        check_expression(expr)
        self.assertEqual(sorted(kinds), variables(expr))
        self.assertEqual(len(answers), len(events))
        self.assertEqual(told(expr, kinds, answers), (events, ("value", value)))
        self.assertEqual(evaluate(expr, kinds, answers), (events, ("value", value)))
        self.assertLessEqual(set(kinds), names_among(events, value))


class ExamplesTest(LogsCase):
    def test_the_document(self):
        h = ("h", (answer(1),))
        self.assertEqual(self.check_call(open_answers, [F, G]), [0, 1])
        self.assertEqual(self.check_call(open_answers, [F, G, h]), [0, 2])
        self.assertEqual(self.check_call(open_answers, [F, G, ("h", (answer(0), NONE))]), [2])
        self.check_error(NoExpressionFor, expression_of, [F, G, ("h", (answer(0),))], NONE, index=2)

    def test_a_last_operand_leaves_no_room(self):
        """An answer that is the last operand is the one right ahead."""
        self.check_error(NoExpressionFor, open_answers, [F, G, ("h", (answer(0),))], index=2)
        self.check_error(NoExpressionFor, open_answers, [F, G, ("h", (NONE, answer(0)))], index=2)
        self.check_error(NoExpressionFor, open_answers, [F, G, ("<", (name("a"), answer(0)))], index=2)
        self.assertEqual(open_answers([F, G, ("h", (answer(0), name("a")))]), [2])
        self.assertEqual(open_answers([F, G, ("<", (answer(0), TRUE))]), [2])
        self.assertEqual(open_answers([F, G, ("h", (answer(0), answer(1)))]), [2])

    def test_operands_in_their_order(self):
        self.check_error(NoExpressionFor, open_answers, [F, G, ("h", (answer(1), answer(0)))], index=2)
        self.check_error(NoExpressionFor, open_answers, [F, ("h", (answer(0), answer(0)))], index=1)
        self.assertEqual(open_answers([F, G, F, ("h", (answer(0), answer(1), answer(2)))]), [3])
        self.assertEqual(open_answers([F, G, F, ("h", (answer(0), NONE, answer(2)))]), [3])
        self.assertEqual(open_answers([F, G, F, ("h", (answer(1), NONE))]), [0, 3])

    def test_an_answer_is_used_once(self):
        used = ("g", (answer(0),))
        for second in [("h", (answer(0), NONE)), ("h", (answer(0),)), ("<", (answer(0), NONE))]:
            self.check_error(NoExpressionFor, open_answers, [F, used, second], index=2)
        self.check_error(NoExpressionFor, open_answers, [F, ("<", (answer(0), NONE)), ("<", (answer(0), NONE))],
            index=2)

    def test_a_right_operand_waits_for_the_next_link(self):
        link = ("<", (name("a"), answer(0)))
        for right in [NONE, name("b")]:
            self.assertEqual(open_answers([F, link, (">", (answer(0), right))]), [2])
            self.assertEqual(open_answers([F, link, G, (">", (answer(0), right))]), [3])
        self.assertEqual(open_answers([F, link, G, (">=", (answer(0), answer(2)))]), [3])
        self.assertEqual(open_answers([F, link, G, (">=", (answer(0), answer(2))), ("!=", (answer(2), NONE))]), [4])
        # Not for a call, not as the right operand, not once the link's answer is used, and not twice.
        self.check_error(NoExpressionFor, open_answers, [F, link, ("h", (answer(0), NONE))], index=2)
        self.check_error(NoExpressionFor, open_answers, [F, link, ("<", (NONE, answer(0)))], index=2)
        self.check_error(NoExpressionFor, open_answers, [F, link, ("<", (answer(0), answer(1)))], index=2)
        self.check_error(NoExpressionFor, open_answers, [F, link, ("g", (answer(1),)), ("<", (answer(0), NONE))],
            index=3)
        twice = [F, link, ("<", (answer(0), NONE)), ("<", (answer(0), NONE))]
        self.check_error(NoExpressionFor, open_answers, twice, index=3)
        self.assertEqual(open_answers([F, link, ("g", (answer(1),))]), [2])

    def test_the_link_s_answer_is_gone_with_the_next_link(self):
        events = [F, ("<", (NONE, answer(0))), ("<", (answer(0), NONE)), ("g", (answer(1), NONE))]
        self.check_error(NoExpressionFor, open_answers, events, index=3)
        self.assertEqual(open_answers(events[:3]), [2])

    def test_the_empty_list(self):
        self.assertEqual(self.check_call(open_answers, []), [])
        for value, expr, kinds in [(NONE, NONE, {}), (TRUE, TRUE, {}), (FALSE, FALSE, {}), (name("b"), B, {"b": "t"})]:
            self.assertEqual(evaluate(expr, kinds, [])[1], ("value", value))
            found = self.check_call(expression_of, [], value)
            self.assertEqual((found[0], found[2]), (expr, []))
            self.assertEqual(list(found[1]), list(kinds))

    def test_values_behind(self):
        self.assertEqual(self.check_call(expression_of, [F], answer(0))[0], call("f"))
        self.check_value([F, G], answer(1))
        self.check_error(NoExpressionFor, expression_of, [F, G], answer(0), index=2)
        self.check_error(NoExpressionFor, expression_of, [F, ("g", (answer(0),))], answer(0), index=2)
        self.check_error(NoExpressionFor, expression_of, [F, ("<", (NONE, answer(0)))], answer(0), index=2)
        for value in [NONE, TRUE, FALSE, name("a"), name("z")]:
            self.check_value([F, G, ("h", (answer(0), answer(1)))], value)


class AllListsTest(LogsCase):
    def go_through(self, events, most, variables, operands):
        """All lists of so many events whose beginnings are possible."""
        self.lists += 1
        if not self.check_list(events):
            self.impossible += 1
            return
        for value in [NONE, name("a"), *[answer(number) for number in range(len(events))]]:
            self.check_value(events, value)
        if len(events) < most:
            for event in next_events(len(events), variables, operands):
                self.go_through([*events, event], most, variables, operands)

    def test_all_lists_of_up_to_three_events(self):
        self.lists, self.impossible = 0, 0
        self.go_through([], 3, (), 2)
        self.assertTrue(self.lists > 500 and self.impossible > 100)

    def test_all_lists_of_up_to_two_events_with_more_operands(self):
        self.lists, self.impossible = 0, 0
        self.go_through([], 2, ("a",), 3)
        self.assertTrue(self.lists > 500 and self.impossible > 30)

    def test_comparisons_of_up_to_five_events(self):
        """Chains, where a right operand waits: calls without operands and comparisons alone."""
        self.lists, self.impossible = 0, 0
        source = random.Random(31)
        level = [[]]
        for number in range(5):
            longer = []
            for events in level:
                values = [NONE, *[answer(at) for at in range(number)]]
                for event in [F, *[("<", pair) for pair in itertools.product(values, repeat=2)]]:
                    if self.check_list([*events, event]):
                        longer.append([*events, event])
            level = source.sample(longer, min(len(longer), 120))
        for events in level:
            self.check_value(events, answer(4))

    def test_behind_an_event_that_is_impossible_its_number_stays(self):
        source = random.Random(32)
        many = 0
        while many < 200:
            events = []
            for number in range(6):
                events.append(some_event(source, number))
            index = first_impossible(events)
            if index is None:
                continue
            many += 1
            self.check_error(NoExpressionFor, open_answers, events, index=index)
            for value in [NONE, name("a"), answer(5), answer(0)]:
                self.check_error(NoExpressionFor, expression_of, events, value, index=index)

    def test_lists_of_six(self):
        source = random.Random(33)
        full = 0
        for _ in range(300):
            events = []
            for number in range(6):
                for _ in range(12):
                    event = some_event(source, len(events))
                    if self.check_list([*events, event]):
                        events.append(event)
                        break
            full += len(events) == 6
            for value in [NONE, name("a"), answer(len(events) - 1), answer(0)]:
                self.check_value(events, value)
        self.assertGreater(full, 200)


def all_expressions(size, leaves, words):
    """All expressions of each size up to this one, by their sizes."""
    found = {1: [*leaves, *[call(word) for word in words]]}
    for many in range(2, size + 1):
        made = []
        for part in found[many - 1]:
            made += [("not", part), ("isnone", part), *[call(word, part) for word in words]]
        for first in range(1, many - 1):
            for pair in itertools.product(found[first], found[many - 1 - first]):
                made += [("and", *pair), ("or", *pair), ("default", *pair), compare(pair[0], ("<", pair[1]))]
                made += [call(word, *pair) for word in words]
        for first, second in itertools.product(range(1, many), repeat=2):
            third = many - 1 - first - second
            if third >= 1:
                for parts in itertools.product(found[first], found[second], found[third]):
                    made += [("if", *parts), compare(parts[0], ("<", parts[1]), ("<", parts[2]))]
        found[many] = [expr for expr in made if helper.places_in(expr) <= 3]
    return found


class AllExpressionsTest(LogsCase):
    def check_runs(self, expr):
        """What an expression makes is possible, with this value."""
        for kinds in helper.worlds(helper.names_in(expr)):
            for answers in helper.runs_of(expr, kinds):
                events, outcome = told(expr, kinds, answers)
                key = (tuple(events), outcome)
                if outcome[0] == "value" and key not in self.known:
                    self.known.add(key)
                    self.check_value(events, outcome[1])
                    self.assertTrue(Grammar(events).makes(0, len(events), outcome[1]), expression_text(expr))

    def test_all_small_expressions(self):
        self.known = set()
        for exprs in all_expressions(5, [NONE, A], ["f"]).values():
            for expr in exprs:
                self.check_runs(expr)
        for exprs in all_expressions(6, [NONE], ["f"]).values():
            for expr in exprs[::5]:
                self.check_runs(expr)
        self.assertGreater(len(self.known), 500)

    def test_large_expressions(self):
        self.known = set()
        for expr in helper.some_expressions(34, 150, levels=5, names="abcd", places=6):
            kinds = random.Random(35).choice(helper.worlds(helper.names_in(expr)))
            events, outcome = told(expr, kinds, random.Random(36).choices("tttfn", k=6))
            self.check_value(events, outcome[1])

    def test_at_the_bounds(self):
        """As large as possible lists make an expression."""
        wide = ("f", (name("a"), name("b"), name("c")))
        lists = [[wide] * 6, [("f", (name("a"), name("d"), NONE))] * 6, [("<", (name("a"), name("b")))] * 6]
        lists += [[F, *[wide] * 4, ("g", (answer(0), name("d"), TRUE))]]
        lists += [[F, G, *[wide] * 3, ("g", (answer(0), answer(1), name("d")))]]
        lists += [[F, *[("g", (answer(number), name("a"), name("b"))) for number in range(5)]]]
        lists += [[F, *[("g", (name("a"), name("b"), answer(number))) for number in range(5)]]]
        chain = [F, ("<", (NONE, answer(0))), F, ("<", (answer(0), answer(2))), F, ("<", (answer(2), answer(4)))]
        lists += [chain, [F, F, F, F, ("g", (answer(1), answer(2), answer(3))), ("h", (answer(0), answer(4), NONE))]]
        lists += [[F, G, F, ("h", (answer(1), NONE)), F, ("h", (answer(0), NONE, NONE))]]
        for events in lists:
            for value in [NONE, name("a"), name("d"), answer(5)]:
                self.check_call(expression_of, events, value)
                self.check_value(events, value)
            self.assertEqual(self.check_call(open_answers, events), open_in(events))


class ErrorsTest(LogsCase):
    def test_no_lists_of_events(self):
        for events in bad_events():
            self.check_error(InvalidEvents, open_answers, events)
            self.check_error(InvalidEvents, expression_of, events, NONE)
            # Ahead of a wrong value.
            self.check_error(InvalidEvents, expression_of, events, None)

    def test_at_the_bounds_and_just_beyond(self):
        four = [("f", (name("a"), name("b"), name("c"))), ("g", (name("d"), name("a")))]
        self.assertEqual(self.check_call(open_answers, four), [0, 1])
        self.assertEqual(open_answers([F] * 6), [0, 1, 2, 3, 4, 5])
        self.assertEqual(open_answers([("abcdefgh", (NONE, TRUE, FALSE))]), [0])
        self.check_error(InvalidEvents, open_answers, [*four, ("h", (name("e"),))])
        self.check_error(InvalidEvents, open_answers, [F] * 7)

    def test_wrong_events_come_ahead_of_impossible_ones(self):
        impossible = [F, ("g", (answer(0), answer(0)))]
        self.check_error(InvalidEvents, open_answers, [*impossible, ("h", (answer(2),))])
        self.check_error(NoExpressionFor, open_answers, [*impossible, ("h", (answer(1),))], index=1)

    def test_no_values(self):
        wrong = [*helper.no_values(), (), A, ("object",), ("object", ("name", "A")), ("object", ["name", "a"]),
            ["none"]]
        wrong += [("none", "none"), ("object", ("event", True)), ("object", ("event", "0")), ("value", NONE), "none"]
        wrong += [answer(2), answer(-1), answer(10 ** 29), ("object", ("event", 0), 0), ("object", (0, ("event", 0)))]
        for value in wrong:
            self.check_error(InvalidValue, expression_of, [F, G], value)
            # Ahead of events that are not possible.
            self.check_error(InvalidValue, expression_of, [F, ("g", (answer(0), answer(0)))], value)
        self.check_error(InvalidValue, expression_of, [], answer(0))

    def test_a_fifth_variable_of_the_value(self):
        four = [("f", (name("a"), name("b"), name("c"))), ("g", (name("d"),))]
        self.check_error(InvalidValue, expression_of, four, name("e"))
        self.check_error(InvalidValue, expression_of, [*four, ("h", (answer(0), answer(0)))], name("e"))
        self.check_value(four, name("d"))
        self.check_value(four[:1], name("e"))

    def test_the_index_of_the_value(self):
        """If only the value is impossible, the index is the number of the events."""
        for many in range(1, 7):
            for number in range(many - 1):
                self.check_error(NoExpressionFor, expression_of, [F] * many, answer(number), index=many)
            self.check_value([F] * many, answer(many - 1))


if __name__ == "__main__":
    unittest.main()
