"""Promises [22] and [23]: programs, and what they do call by call."""

import random
import unittest

import helper
from helper import A, ANSWERS, B, Case, FALSE, KINDS, NONE, Played, TRUE, call, compare, obj
from keptops.errors import InvalidHistory, InvalidProgram
from keptops.keeping import least_program
from keptops.programs import check_program, play
from keptops.texts import read_expression

F, G, H = call("f"), call("g"), call("h")
P, Q = ("name", "p"), ("name", "q")
LOAD = ((), (("c", "none"),), (("if", read_expression("c is none"), (("set", "c", call("load")),), ()),
    ("give", ("name", "c"))))


def kept(*names):
    return tuple((name, "none") for name in names)


def rows(*block, parameters=(), names=("a", "b")):
    return (parameters, kept(*names), block)


def event(number, j):
    return obj(number, ("event", j))


class CheckTest(Case):
    def test_programs(self):
        for program in [*helper.right_programs(), LOAD]:
            self.assertIsNone(self.check_call(check_program, program))
            self.assertEqual(self.check_call(play, program, []), [])

    def test_no_programs(self):
        for program in helper.bad_programs():
            self.check_error(InvalidProgram, check_program, program)
            # Ahead of a wrong history.
            self.check_error(InvalidProgram, play, program, None)

    def test_blocks_nested_very_deep(self):
        """Up to 121 blocks within one another: also of the other rows, and with something wrong within."""
        for inner in [(), (("give", A),), None, "give", [("give", A)]]:
            for word in ("if", "other", "try", "handler"):
                block = inner
                for _ in range(120):
                    row = {
                        "if": ("if", A, block, ()), "other": ("if", A, (), block), "try": ("try", block, ()),
                        "handler": ("try", (), block),
                    }[word]
                    block = (row,)
                self.check_error(InvalidProgram, check_program, ((), kept("a"), block))

    def test_many_programs(self):
        source = random.Random(71)
        for _ in range(200):
            program = helper.some_program(source, ("p",), kept("a", "b"), places=4, rows=9)
            self.assertIsNone(check_program(program))
            self.check_error(InvalidProgram, check_program, ((), program[1], program[2] + (("give", P),)))


class PlayTest(Case):
    def check_play(self, program, history, wanted=None):
        told = play(program, history)
        self.assertEqual(told, Played(program, history).told())
        if wanted is not None:
            self.assertEqual(told, wanted)
        return told

    def test_the_document(self):
        held = event(1, 0)
        wanted = [([("load", ())], ("failed", 0), (NONE,)), ([("load", ())], ("value", held), (held,)),
            ([], ("value", held), (held,))]
        history = [((), ["x"]), ((), ["t"]), ((), [])]
        self.assertEqual(self.check_call(play, LOAD, history), wanted)
        self.check_play(LOAD, history, wanted)

    def test_behind_the_last_row(self):
        for program in [rows(), rows(("set", "a", TRUE), names=("a",)), rows(("try", (), ())), rows(("if", A, (), ()))]:
            self.assertEqual([outcome for _, outcome, _ in self.check_play(program, [((), [])] * 2)],
                [("value", NONE)] * 2)

    def test_set_and_give(self):
        program = rows(("set", "a", F), ("give", ("not", A)), ("set", "a", NONE))
        self.check_play(program, [((), ["f"]), ((), ["n"])], [
            ([("f", ())], ("value", TRUE), (event(0, 0), NONE)), ([("f", ())], ("value", TRUE), (NONE, NONE)),
        ])
        self.check_play(rows(("set", "a", TRUE), ("set", "b", ("isnone", A)), ("give", B)), [((), [])],
                        [([], ("value", FALSE), (TRUE, FALSE))])

    def test_constants_at_first(self):
        program = ((), (("a", "true"), ("b", "false"), ("c", "none")), (("give", call("f", A, B, ("name", "c"))),))
        self.check_play(program, [((), ["t"])], [([("f", (TRUE, FALSE, NONE))], ("value", event(0, 0)),
            (TRUE, FALSE, NONE))])

    def test_give_in_a_block(self):
        for row in [("if", TRUE, (("give", F), ("set", "a", G)), ()), ("if", NONE, (), (("give", F), ("set", "a", G))),
                    ("try", (("give", F), ("set", "a", G)), (("set", "a", H),))]:
            program = rows(row, ("set", "a", TRUE))
            self.check_play(program, [((), ["t"])], [([("f", ())], ("value", event(0, 0)), (NONE, NONE))])
        program = rows(("if", TRUE, (("try", (("if", TRUE, (("give", FALSE),), ()),), ()),), ()), ("give", TRUE))
        self.check_play(program, [((), [])], [([], ("value", FALSE), (NONE, NONE))])

    def test_if(self):
        program = rows(("if", F, (("set", "a", TRUE),), (("set", "b", TRUE),)), ("give", A))
        cases = {"t": (TRUE, NONE), "f": (NONE, TRUE), "n": (NONE, TRUE), "x": (NONE, NONE)}
        for answer, held in cases.items():
            outcome = ("failed", 0) if answer == "x" else ("value", held[0])
            self.check_play(program, [((), [answer])], [([("f", ())], outcome, held)])

    def test_parameters(self):
        program = (("p", "q"), kept("a"), (("set", "a", ("or", P, Q)), ("give", call("f", P, Q))))
        found = self.check_play(program, [(("f", "t"), ["n"]), (("n", "n"), [])])
        self.assertEqual(found[0][0], [("f", (obj(0, ("name", "p")), obj(0, ("name", "q"))))])
        self.assertEqual(found[0][1:], (("value", NONE), (obj(0, ("name", "q")),)))
        self.assertEqual(found[1], ([("f", (NONE, NONE))], ("wanting",), (NONE,)))

    def test_what_holds_an_object_over_calls(self):
        """The source tells the call in which it came, also for parameters."""
        program = (("p",), kept("a", "b"), (("set", "b", A), ("set", "a", P), ("give", B)))
        found = self.check_play(program, [(("t",), []), (("f",), []), (("n",), []), (("t",), [])])
        self.assertEqual([outcome for _, outcome, _ in found], [
            ("value", NONE), ("value", obj(0, ("name", "p"))), ("value", obj(1, ("name", "p"))), ("value", NONE)])
        self.assertEqual(found[1][2], (obj(1, ("name", "p")), obj(0, ("name", "p"))))

    def test_an_object_keeps_its_kind(self):
        program = rows(("if", ("isnone", A), (("set", "a", F), ("give", A)), ()), ("if", A, (("give", G),), ()),
            ("give", H))
        self.check_play(program, [((), ["f"]), ((), ["t"]), ((), ["t"])], [
            ([("f", ())], ("value", event(0, 0)), (event(0, 0), NONE)),
            ([("h", ())], ("value", event(1, 0)), (event(0, 0), NONE)),
            ([("h", ())], ("value", event(2, 0)), (event(0, 0), NONE)),
        ])
        found = self.check_play(program, [((), ["t"]), ((), ["f"])])
        self.assertEqual(found[1][0], [("g", ())])

    def test_events_are_numbered_through_each_call(self):
        program = rows(("set", "a", call("f", G)), ("set", "b", compare(A, ("<", H))), ("give", call("f", B, A)))
        found = self.check_play(program, [((), ["t"] * 5), ((), ["t", "t", "f", "f", "x"])])
        self.assertEqual(found[0][0], [
            ("g", ()), ("f", (event(0, 0),)), ("h", ()), ("<", (event(0, 1), event(0, 2))),
            ("f", (event(0, 3), event(0, 1)))])
        self.assertEqual(found[0][1], ("value", event(0, 4)))
        self.assertEqual(found[1][0][3], ("<", (event(1, 1), event(1, 2))))
        self.assertEqual(found[1][1:], (("failed", 4), (event(1, 1), event(1, 3))))

    def test_try(self):
        program = rows(("try", (("set", "a", TRUE), ("set", "b", F), ("set", "a", FALSE)), (("set", "b", G),)),
            ("give", A))
        self.check_play(program, [((), ["t"])], [([("f", ())], ("value", FALSE), (FALSE, event(0, 0)))])
        # What was set stays set, the rest of the body does not run.
        self.check_play(program, [((), ["x", "t"])], [([("f", ()), ("g", ())], ("value", TRUE), (TRUE, event(0, 1)))])
        # A handler is no part of the body of its own try.
        self.check_play(program, [((), ["x", "x"])], [([("f", ()), ("g", ())], ("failed", 1), (TRUE, NONE))])
        self.check_play(program, [((), ["x"])], [([("f", ()), ("g", ())], ("wanting",), (TRUE, NONE))])

    def test_a_try_without_a_handler(self):
        program = rows(("try", (("set", "a", F),), ()), ("give", G))
        self.check_play(program, [((), ["x", "t"])], [([("f", ()), ("g", ())], ("value", event(0, 1)), (NONE, NONE))])
        self.check_play(rows(("try", (("set", "a", F),), ())), [((), ["x"])],
            [([("f", ())], ("value", NONE), (NONE, NONE))])

    def test_a_try_within_a_try(self):
        inner = ("try", (("set", "a", F),), (("set", "a", G), ("set", "b", TRUE)))
        program = rows(("try", (inner, ("set", "b", H)), (("give", A),)), ("give", B))
        self.check_play(program, [((), ["x", "t", "t"])], [
            ([("f", ()), ("g", ()), ("h", ())], ("value", event(0, 2)), (event(0, 1), event(0, 2)))])
        # A failure in the inner handler belongs to the outer one.
        self.check_play(program, [((), ["x", "x"])], [([("f", ()), ("g", ())], ("value", NONE), (NONE, NONE))])
        self.check_play(program, [((), ["t", "x"])], [([("f", ()), ("h", ())], ("value", event(0, 0)),
            (event(0, 0), NONE))])
        program = rows(("try", (("set", "a", F),), (("try", (("set", "a", G),), (("set", "a", H),)),)), ("give", A))
        self.check_play(program, [((), ["x", "x", "t"])], [
            ([("f", ()), ("g", ()), ("h", ())], ("value", event(0, 2)), (event(0, 2), NONE))])
        self.check_play(program, [((), ["x", "x", "x"])], [([("f", ()), ("g", ()), ("h", ())], ("failed", 2),
            (NONE, NONE))])

    def test_a_failure_in_the_middle_of_an_expression(self):
        program = rows(("try", (("set", "a", call("f", G, H)),), ()), ("give", ("isnone", A)))
        self.check_play(program, [((), ["t", "x"])], [([("g", ()), ("h", ())], ("value", TRUE), (NONE, NONE))])

    def test_conditions_in_a_try(self):
        program = rows(("try", (("if", F, (("set", "a", G),), (("give", FALSE),)), ("set", "b", A)),
            (("set", "b", TRUE),)), ("give", B))
        for answers in helper.answer_lists(2):
            self.check_play(program, [((), answers)])
        self.assertEqual(play(program, [((), ["t", "x"])])[0][1:], (("value", TRUE), (NONE, TRUE)))

    def test_a_call_that_fails_keeps_what_was_set(self):
        program = rows(("set", "a", F), ("set", "b", G), ("give", A))
        self.check_play(program, [((), ["t", "x"]), ((), ["f", "t"])], [
            ([("f", ()), ("g", ())], ("failed", 1), (event(0, 0), NONE)),
            ([("f", ()), ("g", ())], ("value", event(1, 0)), (event(1, 0), event(1, 1))),
        ])

    def test_the_list_ends_with_a_call_that_is_wanting(self):
        program = rows(("set", "a", F), ("set", "b", G))
        found = self.check_play(program, [((), ["t", "t"]), ((), ["f"]), ((), ["t", "t"]), ((), [])])
        self.assertEqual(len(found), 2)
        self.assertEqual(found[1], ([("f", ()), ("g", ())], ("wanting",), (event(1, 0), event(0, 1))))

    def test_answers_too_many_are_ignored(self):
        program = rows(("give", ("or", F, G)))
        self.assertEqual(self.check_play(program, [((), ["t", "x", "x"])] * 2)[1],
            ([("f", ())], ("value", event(1, 0)), (NONE, NONE)))
        self.assertEqual(self.check_play(program, [((), ["x", "t"])])[0][1], ("failed", 0))
        self.assertEqual(play(rows(), [((), list(ANSWERS) * 5)]), [([], ("value", NONE), (NONE, NONE))])

    def test_many_programs(self):
        source = random.Random(72)
        for number in range(400):
            parameters = ("p", "q")[:number % 3]
            names = tuple((name, source.choice(["none", "true", "false"])) for name in "abcd"[:source.randint(0, 4)])
            program = helper.some_program(source, parameters, names, places=6, rows=14)
            for _ in range(4):
                history = [(tuple(source.choice(KINDS) for _ in parameters),
                    source.choices("tttffnx", k=source.randint(2, 8)))
                           for _ in range(4)]
                self.check_play(program, history)

    def test_right_programs(self):
        for program in helper.right_programs():
            for kind in KINDS:
                self.check_play(program, [((kind,) * len(program[0]), [answer] * 6) for answer in ANSWERS])

    def test_at_the_bounds(self):
        """100 calls of 30 rows with large expressions, and of 6 event places."""
        names = tuple((name, "none") for name in "abcd")
        large = helper.joined([("name", name) for name in "abcd"] * 4 + [("isnone", ("not", A)), B])
        block = (("set", "a", call("f", A)), ("set", "b", call("g", B)), *[("set", name, large) for name in "abcd" * 7])
        program = (("p", "q"), names, block)
        history = [(("t", "f"), list("tftfntnxxxtftfntnxxt"))] * 100
        self.assertEqual(len(self.check_call(play, program, history)), 100)
        self.check_play(program, history[:5])
        calls = ((), kept("a"), (("give", helper.most_calls()),))
        self.assertEqual(len(self.check_call(play, calls, [((), ["t"] * 20)] * 100)), 100)


class LeastProgramTest(Case):
    def test_what_is_told_for_lists_of_events(self):
        """[19a]: it is a program, and its first call makes the events."""
        source = random.Random(73)
        kept_names = set()
        for _ in range(300):
            events = []
            for number in range(source.randint(0, 6)):
                values = [NONE, *[helper.answer(at) for at in range(number)] * 3]
                events.append(("f", tuple(source.choice(values) for _ in range(source.randint(0, 3)))))
            program, answers = least_program(events)
            self.assertIsNone(check_program(program))
            kept_names.add(len(program[1]))
            ((told, outcome, _),) = play(program, [((), answers)])
            self.assertEqual(outcome[0], "value")
            self.assertEqual(told, [(word, tuple(obj(0, value[1]) if value[0] == "object" else value
                for value in values))
                                    for word, values in events])
        self.assertEqual(kept_names, {0, 1, 2, 3, 4})


class HistoryTest(Case):
    def test_no_histories(self):
        for parameters in [(), ("p",), ("p", "q")]:
            kinds = ("t", "f")[:len(parameters)]
            for program in [(parameters, (), ()), (parameters, kept("a"), (("set", "a", F), ("give", A)))]:
                for history in helper.bad_histories(kinds):
                    self.check_error(InvalidHistory, play, program, history)

    def test_also_behind_a_call_that_is_wanting(self):
        program = (("p",), kept("a"), (("set", "a", F), ("give", A)))
        self.assertEqual(len(play(program, [(("t",), []), (("t",), ["t"])])), 1)
        for history in helper.bad_histories(("n",)):
            if isinstance(history, list):
                self.check_error(InvalidHistory, play, program, [(("t",), []), *history])
                self.check_error(InvalidHistory, play, program, [*history, (("t",), [])])


if __name__ == "__main__":
    unittest.main()
