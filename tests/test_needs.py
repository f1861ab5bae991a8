"""Promise [27]: which objects a program must keep."""

import random
import unittest

import helper
from helper import A, B, C, Case, D, FALSE, NONE, Played, TRUE, call, compare
from keptops.errors import InvalidHistory, InvalidProgram, TooMany
from keptops.needs import most_needed, needed

F, G, H = call("f"), call("g"), call("h")
P, Q = ("name", "p"), ("name", "q")


def kept(*names):
    return tuple((name, "none") for name in names)


CACHE = ((), kept("c"), (("if", ("isnone", C), (("set", "c", call("load")),), ()), ("give", C)))
# What comes in a call goes through b and a, and comes out in the second call behind it.
DELAYED = (("p",), kept("a", "b", "c"), (("set", "c", A), ("set", "a", B), ("set", "b", P), ("give", C)))


def least_calls(program, history, source, most):
    """The least further calls that show an object, by playing all lists of up to so many; or None."""
    for calls, found in helper.further_calls(program, history, most):
        if helper.shows(found, source):
            return calls
    return None


class NeedsCase(Case):
    def check_needed(self, program, history, most=2):
        """Compare with further calls that are played in order."""
        found = needed(program, history)
        state = helper.state_behind(Played(program, history))
        objects = helper.objects_behind(program, history)
        wanted = [objects[number] for number in helper.needed_in(program, state)]
        self.assertEqual([source for source, _ in found], sorted(wanted))
        for source, calls in found:
            if len(calls) <= most:
                self.assertEqual(calls, least_calls(program, history, source, len(calls)))
            else:
                self.assertIsNone(least_calls(program, history, source, most))
                played = Played(program, history + calls)
                self.assertTrue(all(call.complete for call in played.calls[:-1]))
                self.assertTrue(helper.shows(played.calls[-1], source))
        return found

    def check_most(self, program):
        """Compare with all states that come, in order."""
        found = most_needed(program)
        counts = [(len(helper.needed_in(program, state)), history)
                  for state, history in helper.states_that_come([program]).items()]
        most = max(number for number, _ in counts)
        self.assertEqual(found, next(count for count in counts if count[0] == most))
        return found


class NeededTest(NeedsCase):
    def test_the_cache(self):
        self.assertEqual(self.check_call(needed, CACHE, [((), ["t"])]), [((0, ("event", 0)), [((), [])])])
        self.assertEqual(self.check_call(needed, CACHE, [((), ["x"]), ((), ["f"]), ((), [])]),
            [((1, ("event", 0)), [((), [])])])
        for history in [[], [((), ["n"])], [((), ["x"])]]:
            self.assertEqual(self.check_call(needed, CACHE, history), [])

    def test_what_comes_out_only_behind_several_calls(self):
        history = [(("t",), []), (("f",), []), (("t",), [])]
        wanted = [((1, ("name", "p")), [(("t",), [])]), ((2, ("name", "p")), [(("t",), [])] * 2)]
        self.assertEqual(self.check_call(needed, DELAYED, history), [*wanted])
        self.check_needed(DELAYED, history, 3)

    def test_the_last_call_may_be_wanting(self):
        program = ((), kept("a"), (("set", "a", ("if", ("isnone", A), F, call("g", A))),))
        self.assertEqual(self.check_call(needed, program, [((), ["t"])]), [((0, ("event", 0)), [((), [])])])
        program = ((), kept("a"), (("if", ("isnone", A), (("set", "a", F),), (("give", call("g", F, A)),)),))
        self.assertEqual(self.check_call(needed, program, [((), ["f"])]), [((0, ("event", 0)), [((), ["t"])])])
        program = ((), kept("a"), (("if", ("isnone", A), (("set", "a", F),),
            (("try", (("give", F),), (("give", compare(A, ("<", NONE))),)),)),))
        self.assertEqual(self.check_call(needed, program, [((), ["f"])]), [((0, ("event", 0)), [((), ["x"])])])

    def test_two_names_that_hold_one_object(self):
        rows = (("if", ("isnone", A), (("set", "a", P), ("set", "b", P), ("give", NONE)), ()),
            ("set", "a", ("if", P, NONE, A)), ("give", call("f", B)))
        program = (("p",), kept("a", "b"), rows)
        found = [((0, ("name", "p")), [(("t",), [])])]
        self.assertEqual(self.check_call(needed, program, [(("t",), [])]), found)
        # Now b alone holds it, and a new object comes ahead of it.
        history = [(("t",), []), (("t",), ["f"])]
        self.assertEqual(self.check_call(needed, program, history), [])
        history = [(("f",), []), (("f",), ["f"])]
        self.assertEqual(self.check_call(needed, program, history), [((0, ("name", "p")), [(("t",), [])])])
        source = random.Random(270)
        for many in range(6):
            self.check_needed(program, helper.some_history(source, program, many), 3)

    def test_one_object_in_two_names_ahead_of_another_one(self):
        rows = (("if", ("isnone", A), (("set", "a", P), ("set", "b", P), ("set", "c", Q), ("give", NONE)), ()),
            ("if", P, (("give", B),), ()), ("if", Q, (("give", C),), ()))
        wanted = [((0, ("name", "p")), [(("t", "t"), [])]), ((0, ("name", "q")), [(("f", "t"), [])])]
        for kinds in [("t", "f"), ("f", "t"), ("t", "t")]:
            self.assertEqual(self.check_call(needed, (("p", "q"), kept("a", "b", "c"), rows), [(kinds, [])]), wanted)
        self.assertEqual(self.check_call(most_needed, (("p", "q"), kept("a", "b", "c"), rows)), (2, [(("t", "t"), [])]))

    def test_objects_that_are_never_shown(self):
        truth = (("p",), kept("a"), (("if", A, (("set", "a", P), ("give", TRUE)), (("set", "a", P), ("give", NONE))),))
        for kind in "tfn":
            self.assertEqual(self.check_call(needed, truth, [((kind,), [])]), [])
        lost = (("p",), kept("a"), (("set", "a", P), ("give", call("f"))))
        self.assertEqual(self.check_call(needed, lost, [(("t",), ["t"])]), [])
        # Only what is true comes out.
        only = (("p",), kept("a"), (("if", A, (("give", A),), ()), ("set", "a", P)))
        self.assertEqual(needed(only, [(("t",), [])]), [((0, ("name", "p")), [(("t",), [])])])
        self.assertEqual(needed(only, [(("f",), [])]), [])

    def test_objects_that_are_none(self):
        program = (("p", "q"), kept("a", "b"), (("try", (("set", "a", call("f", A, B)),), ()), ("set", "a", P),
            ("set", "b", Q)))
        self.assertEqual(self.check_call(needed, program, [(("n", "f"), ["t"])]),
            [((0, ("name", "q")), [(("t", "t"), [])])])
        self.assertEqual(self.check_call(needed, program, [(("n", "n"), ["x"])]), [])

    def test_the_order_of_the_objects(self):
        """Ascending, whatever names hold them: by the call, then answers ahead of parameters."""
        program = (("q", "p"), kept("a", "b", "c"), (
            ("if", ("isnone", A), (("set", "a", P), ("set", "b", Q), ("set", "c", ("default", C, F))), ()),
            ("if", B, (), (("set", "b", NONE), ("set", "c", A))), ("if", ("not", Q), (("give", A),), ()),
            ("if", P, (("give", B),), (("give", C),))))
        found = self.check_needed(program, [(("t", "f"), ["t"])])
        self.assertEqual([source for source, _ in found], [(0, ("event", 0)), (0, ("name", "p")), (0, ("name", "q"))])
        later = (("p",), kept("a", "b"), (("set", "a", ("default", A, P)), ("set", "b", ("default", B, F)),
            ("if", P, (("give", A),), (("give", B),))))
        history = [(("n",), ["f"]), (("f",), [])]
        self.assertEqual(self.check_call(needed, later, history),
            [((0, ("event", 0)), [(("f",), [])]), ((1, ("name", "p")), [(("t",), [])])])

    def test_answers_of_several_events(self):
        program = ((), kept("a", "b"), (("if", ("isnone", A), (("set", "a", F), ("set", "b", G), ("give", TRUE)), ()),
            ("give", call("h", B, A))))
        wanted = [((1, ("event", 0)), [((), [])]), ((1, ("event", 1)), [((), [])])]
        self.assertEqual(self.check_call(needed, program, [((), ["x"]), ((), ["t", "f"])]), wanted)
        # What a call has set stays where it failed.
        self.assertEqual(self.check_call(needed, program, [((), ["f", "x"])]), [((0, ("event", 0)), [((), [])])])

    def test_many_programs(self):
        source = random.Random(271)
        found = 0
        for _ in range(300):
            parameters = ("p", "q")[:source.choice([0, 1, 1, 2])]
            names = tuple((name, source.choice(["none", "none", "true", "false"]))
                          for name in "abcd"[:source.randint(1, 4)])
            made = source.choice([helper.lively_program, helper.keeping_program, helper.keeping_program])
            program = made(source, parameters, names, min(2, 3 - len(parameters)))
            for many in (1, 2, 4):
                found += len(self.check_needed(program, helper.some_history(source, program, many)))
        self.assertGreater(found, 120)


class MostNeededTest(NeedsCase):
    def test_small_ones(self):
        self.assertEqual(self.check_call(most_needed, CACHE), (1, [((), ["t"])]))
        self.assertEqual(self.check_call(most_needed, DELAYED), (2, [(("t",), [])] * 2))
        for program in [((), (), ()), (("p",), (), (("give", P),)), ((), kept("a", "b"), (("give", A),)),
                        ((), kept("a"), (("set", "a", F), ("give", ("not", A))))]:
            self.assertEqual(self.check_call(most_needed, program), (0, []))

    def test_the_least_history(self):
        rows = (("if", P, (("give", call("f", A)),), ()), ("set", "b", A), ("set", "a", P))
        self.assertEqual(self.check_call(most_needed, (("p",), kept("a", "b"), rows)), (1, [(("f",), [])]))
        rows = (("if", P, (("give", B),), ()), ("set", "b", A), ("set", "a", ("default", P, F)))
        self.assertEqual(self.check_call(most_needed, (("p",), kept("a", "b"), rows)),
            (2, [(("f",), [])] * 2))
        # Behind two true objects the program shows them no more.
        rows = (("if", ("and", A, B), (("give", TRUE),), ()), ("if", call("f", A, B), (), ()), ("set", "b", A),
            ("set", "a", P))
        self.assertEqual(self.check_call(most_needed, (("p",), kept("a", "b"), rows)),
            (2, [(("t",), ["t"]), (("f",), ["t"])]))

    def test_four_objects(self):
        moves = (("set", "d", C), ("set", "c", B), ("set", "b", A), ("set", "a", F))
        self.assertEqual(self.check_call(most_needed, ((), kept(*"abcd"), (*moves, ("give", call("g", D))))),
            (3, [((), ["t", "t"])] * 3))
        shift = (("try", (("if", call("g", D), (), ()),), ()), ("set", "d", C), ("set", "c", B), ("set", "b", A),
            ("set", "a", F))
        self.assertEqual(self.check_call(most_needed, ((), kept(*"abcd"), shift)), (4, [((), ["t", "t"])] * 4))

    def test_many_programs(self):
        source = random.Random(272)
        most = [0] * 5
        for _ in range(250):
            parameters = ("p", "q")[:source.choice([0, 0, 1, 2])]
            names = tuple((name, source.choice(["none", "none", "true", "false"]))
                          for name in "abc"[:source.randint(1, 3)])
            made = source.choice([helper.lively_program, helper.keeping_program])
            program = made(source, parameters, names, min(2, 3 - len(parameters)))
            most[self.check_most(program)[0]] += 1
        self.assertGreater(min(most[:3]), 4)

    def test_at_the_bounds(self):
        """Four kept names, three event places, 30 rows, large expressions, and objects that go around."""
        for program in helper.large_programs():
            number, history = self.check_call(most_needed, program)
            self.assertEqual(len(needed(program, history)), number)
            self.check_call(needed, program, history)
            self.assertTrue(all(call.complete for call in Played(program, history).calls))


class ErrorsTest(NeedsCase):
    def test_wrong_programs_come_first(self):
        for wrong in helper.bad_programs()[::2]:
            self.check_error(InvalidProgram, needed, wrong, None)
            self.check_error(InvalidProgram, most_needed, wrong)

    def test_too_many_comes_ahead_of_the_history(self):
        beyond, within = helper.too_many_places()
        for program in beyond:
            self.check_error(TooMany, needed, program, None)
            self.check_error(TooMany, needed, program, [])
            self.check_error(TooMany, most_needed, program)
        for program in within:
            self.check_error(InvalidHistory, needed, program, None)
            self.assertEqual(self.check_call(needed, program, []), [])
            self.check_call(most_needed, program)

    def test_wrong_histories(self):
        for kinds in [(), ("t",), ("t", "f")]:
            program = (("p", "q")[:len(kinds)], kept("c"), (("give", C),))
            for wrong in helper.bad_histories(kinds):
                self.check_error(InvalidHistory, needed, program, wrong)

    def test_calls_that_are_not_complete(self):
        for history in [[((), [])], [((), ["t"]), ((), ["t"])], [((), ["t", "t"])], [((), ["x", "t"])],
                        [((), ["n"]), ((), [])], [((), []), ((), ["t"])], [((), ["n", "n"]), ((), ["t"])]]:
            self.check_error(InvalidHistory, needed, CACHE, history)
        rows = (("try", (("set", "c", call("f", F)),), (("set", "c", G),)), ("give", C))
        program = ((), kept("c"), rows)
        for answers in [[], ["t"], ["x"], ["t", "x"], ["t", "t", "t"], ["x", "x", "x"], ["t", "x", "t", "t"]]:
            self.check_error(InvalidHistory, needed, program, [((), answers)])
        for answers in [["t", "t"], ["x", "t"], ["x", "x"], ["t", "x", "f"], ["t", "x", "x"]]:
            self.check_call(needed, program, [((), answers)])
        self.check_error(InvalidHistory, needed, (("p",), kept("c"), ()), [(("t",), ["t"])])

    def test_a_long_history(self):
        history = [((), ["x"])] * 99 + [((), ["t"])]
        self.assertEqual(self.check_call(needed, CACHE, history), [((99, ("event", 0)), [((), [])])])


if __name__ == "__main__":
    unittest.main()
