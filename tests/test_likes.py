"""Promise [27a]: the least history behind which a program goes on alike."""

import itertools
import random
import unittest

import helper
from helper import A, B, C, Case, FALSE, NONE, Played, TRUE, call
from keptops.errors import InvalidHistory, InvalidProgram, TooMany
from keptops.likes import least_like
from keptops.needs import needed

F, G = call("f"), call("g")
P, Q = ("name", "p"), ("name", "q")


def kept(*names):
    return tuple((name, "none") for name in names)


CACHE = ((), kept("c"), (("if", ("isnone", C), (("set", "c", call("load")),), ()), ("give", C)))
LAST = (("p",), kept("a"), (("if", P, (("give", A),), ()), ("set", "a", P)))


def beside(short, long, pairs):
    """Two states as one: objects by pairs have one number, others numbers of their own."""
    partners = {other: ("short", one) for one, other in pairs}
    numbers, state = {}, []
    for word, entry in [("short", entry) for entry in short] + [("long", entry) for entry in long]:
        if isinstance(entry, tuple):
            key = (word, entry[0]) if word == "short" else partners.get(entry[0], (word, entry[0]))
            entry = (numbers.setdefault(key, len(numbers)), entry[1])
        state.append(entry)
    return tuple(state)


def go_on_alike(program, begin):
    """Whether no further calls tell different things, by a look at all pairs of states that come."""
    seen, waiting = {begin}, [begin]
    while waiting:
        for _, (first, second) in helper.calls_from([program, program], waiting.pop()):
            one, other = first.calls[-1], second.calls[-1]
            if (one.events, one.outcome) != (other.events, other.outcome):
                return False
            behind = helper.state_behind(first, second)
            if one.complete and behind not in seen:
                seen.add(behind)
                waiting.append(behind)
    return True


def pairings(program, short, long):
    """All ways to pair the needed objects of two states, by their numbers."""
    first, second = helper.needed_in(program, short), helper.needed_in(program, long)
    if len(first) == len(second):
        for order in itertools.permutations(second):
            yield list(zip(first, order))


def exchanged(pairs, begun, call):
    """The events and the outcome of a further call, as the document wants them compared.

    `pairs` tells for each source of the history what it is exchanged for, `begun` how long the history is.
    """
    def value(found):
        if found[0] != "object":
            return found
        number, what = found[1]
        return ("further", number - begun, what) if number >= begun else ("history", pairs[found[1]])

    events = [(word, tuple(value(operand) for operand in values)) for word, values in call.events]
    return events, ("value", value(call.outcome[1])) if call.outcome[0] == "value" else call.outcome


class LikesCase(Case):
    def check_like(self, program, history, most=2):
        """The least history by a look at all states that come in order, and further calls played behind both."""
        short, pairs = found = least_like(program, history)
        long = helper.state_behind(Played(program, history))
        objects = helper.objects_behind(program, history)
        for state, calls in helper.states_that_come([program]).items():
            right = [numbers for numbers in pairings(program, state, long)
                     if go_on_alike(program, beside(state, long, numbers))]
            if right:
                self.assertEqual(short, calls)
                sources = helper.objects_behind(program, calls)
                self.assertIn(pairs, [sorted((sources[one], objects[other]) for one, other in numbers)
                                      for numbers in right])
                break
        else:
            self.fail("no state goes on alike")
        self.check_further(program, short, history, pairs, most)
        self.assertEqual([one for one, _ in pairs], [source for source, _ in needed(program, short)])
        self.assertEqual(sorted(other for _, other in pairs), [source for source, _ in needed(program, history)])
        self.assertEqual(least_like(program, short), (short, [(one, one) for one, _ in pairs]))
        return found

    def check_further(self, program, short, history, pairs, most):
        """All further calls of up to so many tell the same behind both."""
        names = {one: number for number, (one, _) in enumerate(pairs)}
        others = {other: number for number, (_, other) in enumerate(pairs)}
        for (calls, one), (same, other) in zip(helper.further_calls(program, short, most),
                                               helper.further_calls(program, history, most), strict=True):
            self.assertEqual(calls, same)
            self.assertEqual(exchanged(names, len(short), one), exchanged(others, len(history), other))


class LeastLikeTest(LikesCase):
    def test_the_document(self):
        self.assertEqual(self.check_call(least_like, CACHE, [((), ["x"]), ((), ["n"]), ((), ["f"]), ((), [])]),
            ([((), ["t"])], [((0, ("event", 0)), (2, ("event", 0)))]))

    def test_behind_nothing(self):
        for program in [CACHE, LAST, ((), (), ()), ((), kept("a", "b"), (("give", F),))]:
            self.assertEqual(self.check_call(least_like, program, []), ([], []))
        for history in [[((), ["x"])], [((), ["n"])], [((), ["n"]), ((), ["x"])]]:
            self.assertEqual(self.check_call(least_like, CACHE, history), ([], []))

    def test_kinds_that_are_not_the_same(self):
        """The kind of an object does not count where the program does not look at it."""
        self.assertEqual(self.check_call(least_like, LAST, [(("f",), [])]),
            ([(("f",), [])], [((0, ("name", "p")), (0, ("name", "p")))]))
        any_kind = (("p",), kept("a"), (("try", (("if", call("f", A), (), ()),), ()), ("set", "a", P)))
        for kind in "tf":
            self.assertEqual(self.check_call(least_like, any_kind, [(("n",), ["t"]), ((kind,), ["f"])]),
                ([(("t",), ["t"])], [((0, ("name", "p")), (1, ("name", "p")))]))
        self.assertEqual(self.check_call(least_like, any_kind, [(("t",), ["x"]), (("n",), ["f"])]), ([], []))
        truth = (("p",), kept("a"), (("if", ("and", A, call("f", A)), (), ()), ("set", "a", P)))
        for kind, begin in [("f", ([], [])), ("t", ([(("t",), [])], [((0, ("name", "p")), (1, ("name", "p")))]))]:
            self.assertEqual(self.check_call(least_like, truth, [(("n",), []), ((kind,), [])]), begin)

    def test_orders_that_are_not_the_same(self):
        """Objects that have gone from one name to the other one."""
        rows = (("if", ("isnone", A), (("set", "a", P), ("give", NONE)), ()), ("if", ("isnone", B), (("set", "b", P),
            ("give", NONE)), ()), ("give", call("f", A, B)))
        program = (("p",), kept("a", "b"), rows)
        history = [(("f",), []), (("n",), []), (("t",), []), (("n",), ["t"])]
        self.assertEqual(self.check_call(least_like, program, history), ([(("t",), []), (("t",), [])],
            [((0, ("name", "p")), (0, ("name", "p"))), ((1, ("name", "p")), (2, ("name", "p")))]))
        rows = (("if", ("isnone", A), (("set", "a", Q), ("set", "b", P), ("give", NONE)), ()), ("if", P,
            (("give", A),), (("give", B),)))
        program = (("p", "q"), kept("a", "b"), rows)
        found = self.check_like(program, [(("t", "n"), []), (("t", "f"), []), (("n", "n"), [])])
        self.assertEqual(found, ([(("t", "t"), [])], [((0, ("name", "p")), (1, ("name", "p"))),
            ((0, ("name", "q")), (1, ("name", "q")))]))
        first = (("p",), kept("a", "b"), (("if", ("isnone", B), (("if", P, (("set", "a", P),), (("set", "b", F),)),
            ("give", NONE)), ()), ("if", P, (("give", A),), (("give", B),))))
        self.check_like(first, [(("f",), ["t"]), (("t",), [])])
        self.assertEqual(self.check_like(first, [(("t",), []), (("n",), ["f"])]),
            ([(("t",), []), (("f",), ["t"])], [((0, ("name", "p")), (0, ("name", "p"))),
                ((1, ("event", 0)), (1, ("event", 0)))]))

    def test_pairs_that_cross(self):
        """The first source of the one history belongs to the later one of the other."""
        rows = (("if", ("isnone", A), (("set", "a", P), ("give", NONE)), ()), ("if", ("isnone", B), (("set", "b", P),
            ("if", B, (), (("set", "b", A), ("set", "a", P)))), ()), ("give", call("f", A, B)))
        program = (("p",), kept("a", "b"), rows)
        found = self.check_like(program, [(("t",), []), (("f",), ["t"])])
        self.assertEqual(found, ([(("t",), []), (("t",), ["t"])],
            [((0, ("name", "p")), (1, ("name", "p"))), ((1, ("name", "p")), (0, ("name", "p")))]))

    def test_names_that_cross(self):
        """What the one name holds belongs to what the other one holds: the true object is shown first."""
        rows = (("if", ("isnone", A), (("set", "a", P), ("give", NONE)), ()), ("if", ("isnone", B), (("set", "b", P),
            ("give", NONE)), ()), ("give", call("f", ("if", A, A, B), ("if", A, B, A))))
        program = (("p",), kept("a", "b"), rows)
        wanted = [((0, ("name", "p")), (1, ("name", "p"))), ((1, ("name", "p")), (0, ("name", "p")))]
        for kind, pairs in [("t", wanted), ("f", wanted)]:
            history = [(("f",), []), ((kind,), []), (("n",), ["x"])]
            self.assertEqual(self.check_like(program, history), ([(("t",), []), (("t",), [])], pairs))
        straight = [(source, source) for source, _ in wanted]
        self.assertEqual(self.check_like(program, [(("t",), []), (("f",), [])]),
            ([(("t",), []), (("t",), [])], straight))

    def test_objects_that_are_held_but_not_needed(self):
        lost = (("p",), kept("a", "b"), (("set", "a", P), ("if", ("isnone", B), (("set", "b", F),), ()), ("give", B)))
        self.assertEqual(self.check_call(least_like, lost, [(("t",), ["n"]), (("f",), ["f"]), (("n",), [])]),
            ([(("t",), ["t"])], [((0, ("event", 0)), (1, ("event", 0)))]))
        truth = (("p",), kept("a"), (("if", A, (("set", "a", P), ("give", TRUE)), (("set", "a", P), ("give", NONE))),))
        self.assertEqual(self.check_call(least_like, truth, [(("t",), []), (("f",), [])]), ([], []))
        self.assertEqual(self.check_call(least_like, truth, [(("f",), []), (("t",), [])]), ([(("t",), [])], []))
        # A constant for an object that is never shown.
        some = (("p",), kept("a"), (("if", A, (("give", TRUE),), ()), ("set", "a", ("if", P, TRUE, F))))
        self.assertEqual(self.check_call(least_like, some, [(("f",), ["t"])]), ([(("t",), [])], []))

    def test_constants_that_come_out(self):
        program = (("p",), kept("a"), (("set", "a", ("if", A, A, ("if", P, ("not", NONE), P))), ("give", A)))
        self.assertEqual(self.check_call(least_like, program, [(("f",), []), (("t",), [])]), ([(("t",), [])], []))
        program = (("p",), (("a", "false"),), (("set", "a", ("if", P, A, ("isnone", P))), ("give", A)))
        self.assertEqual(self.check_call(least_like, program, [(("n",), []), (("t",), [])]), ([(("n",), [])], []))
        self.assertEqual(self.check_call(least_like, program, [(("n",), []), (("f",), [])]), ([], []))

    def test_one_object_in_two_names(self):
        rows = (("if", ("isnone", A), (("set", "a", P), ("set", "b", P), ("give", NONE)), ()), ("give",
            call("f", A, B)))
        history = [(("n",), []), (("f",), []), (("t",), ["x"])]
        self.assertEqual(self.check_call(least_like, (("p",), kept("a", "b"), rows), history),
            ([(("t",), [])], [((0, ("name", "p")), (1, ("name", "p")))]))
        # Two objects are not one.
        rows = (("if", ("isnone", A), (("set", "a", P), ("set", "b", ("if", P, A, F)), ("give", NONE)), ()), ("give",
            ("if", P, A, B)))
        self.check_like((("p",), kept("a", "b"), rows), [(("f",), ["f"])])
        self.check_like((("p",), kept("a", "b"), rows), [(("t",), [])])

    def test_many_programs(self):
        source = random.Random(273)
        lengths, with_pairs = [0] * 6, 0
        for _ in range(260):
            parameters = ("p", "q")[:source.choice([0, 1, 1, 2])]
            names = tuple((name, source.choice(["none", "none", "true", "false"]))
                          for name in "ab"[:source.randint(1, 2)])
            made = source.choice([helper.lively_program, helper.keeping_program, helper.keeping_program])
            program = made(source, parameters, names, min(source.randint(0, 2), 3 - len(parameters)))
            for many in (1, 3, 6):
                history = helper.some_history(source, program, many)
                short, pairs = self.check_like(program, history, 1 if parameters else 2)
                lengths[len(short)] += 1
                with_pairs += len(pairs) > 0
        self.assertGreater(min(lengths[:3]), 4)
        self.assertGreater(with_pairs, 60)

    def test_at_the_bounds(self):
        sets = tuple(("set", name, large(name)) for name in "ab" * 14)
        ask = ("if", call("f", A, B), (("set", "b", A), ("set", "a", G)), (("set", "a", B), ("set", "b", call("h"))))
        program = ((), kept("a", "b"), (("try", (ask,), (("set", "a", NONE),)), *sets[:23]))
        source = random.Random(274)
        for many in (1, 5, 40, 100):
            self.check_call(least_like, program, helper.some_history(source, program, many))
        asks = tuple(("try", (("set", name, call(word, A, B)),), ()) for name, word in zip("aba", "fgh"))
        program = ((), kept("a", "b"), (*asks, *sets[:24]))
        for many in (1, 5, 40, 100):
            self.check_call(least_like, program, helper.some_history(source, program, many))


def large(name):
    """40 expressions that are alike to a variable."""
    some = helper.joined([("not", ("name", x)) for x in "ababab"])
    return ("if", some, ("name", name), ("if", ("isnone", some), ("name", name), ("name", name)))


class ErrorsTest(LikesCase):
    def test_wrong_programs_come_first(self):
        for wrong in helper.bad_programs()[::2]:
            self.check_error(InvalidProgram, least_like, wrong, None)

    def test_too_many_comes_ahead_of_the_history(self):
        beyond, within = helper.too_many_places()
        for program in beyond + [((), kept("a", "b", "c"), ()), ((), kept(*"abcd"), (("give", A),))]:
            self.check_error(TooMany, least_like, program, None)
            self.check_error(TooMany, least_like, program, [])
        for program in within + [((), kept("a", "b"), ())]:
            self.check_error(InvalidHistory, least_like, program, None)
            self.assertEqual(self.check_call(least_like, program, []), ([], []))

    def test_wrong_histories(self):
        for kinds in [(), ("t",), ("t", "f")]:
            program = (("p", "q")[:len(kinds)], kept("c"), (("give", C),))
            for wrong in helper.bad_histories(kinds):
                self.check_error(InvalidHistory, least_like, program, wrong)

    def test_calls_that_are_not_complete(self):
        for history in [[((), [])], [((), ["t"]), ((), ["t"])], [((), ["t", "t"])], [((), ["x", "t"])],
                        [((), ["n"]), ((), [])], [((), []), ((), ["t"])], [((), ["n", "n"]), ((), ["t"])]]:
            self.check_error(InvalidHistory, least_like, CACHE, history)


if __name__ == "__main__":
    unittest.main()
