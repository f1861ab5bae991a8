"""Promises [32] and [33]: programs that run, and whether two runs have the same future."""

import random
import unittest

import helper
from helper import A, B, C, Case, D, FALSE, KINDS, NONE, Played, TRUE, call, compare, obj, told_by_places
from keptops.errors import (
    InvalidCall, InvalidPair, InvalidProgram, NotAlike, NothingToUndo, OperandError, TooMany, Unused, Wanting,
)
from keptops.pairs import compare_programs
from keptops.programs import play
from keptops.runs import Run, attempt

F, G = call("f"), call("g")
P, Q = ("name", "p"), ("name", "q")


def kept(*names):
    return tuple((name, "none") for name in names)


CACHE = ((), kept("c"), (("if", ("isnone", C), (("set", "c", call("load")),), ()), ("give", C)))
LAST = (("p",), kept("a"), (("if", P, (("give", A),), ()), ("set", "a", P)))
# Two events, the second one with the answer of the first one; the names hold what came last.
PAIRS = (("p", "q"), kept("a", "b"), (("set", "a", F), ("set", "b", call("g", A, P)), ("give", Q)))


def o(number, *source):
    return obj(number, source)


def run_of(program, history=()):
    run = Run(program)
    for kinds, answers in history:
        run(kinds, answers)
    return run


class Broken(Exception):
    """An error that is none of the program's."""


class RunCase(Case):
    def check_run(self, run, program, history):
        """The run is as one of this program with this history."""
        self.assertEqual((run.program, run.history, len(run)), (program, history, len(history)))
        self.assertEqual(run.holding(), tuple(Played(program, history).holds.values()))
        self.assertEqual(run, run_of(program, history))

    def check_refused(self, run, error, *args, **attributes):
        """A call raises the error, and nothing is changed behind it."""
        program, history = run.program, run.history
        self.check_error(error, run, *args, **attributes)
        self.check_run(run, program, history)


class CallsTest(RunCase):
    def test_the_document(self):
        run = Run(CACHE)
        self.assertEqual(run((), ["n"]), ([("load", ())], ("value", NONE)))
        self.assertEqual(run((), ["t"]), ([("load", ())], ("value", o(1, "event", 0))))
        self.assertEqual((len(run), run.holding()), (2, (o(1, "event", 0),)))

    def test_at_first(self):
        for program in helper.right_programs():
            run = Run(program)
            self.assertEqual((run.program, run.history, len(run)), (program, [], 0))
            self.assertEqual(run.holding(), tuple((constant,) for _, constant in program[1]))
        self.assertEqual(Run(program=CACHE).program, CACHE)

    def test_wrong_programs(self):
        for wrong in helper.bad_programs():
            self.check_error(InvalidProgram, Run, wrong)

    def test_complete_calls(self):
        source = random.Random(321)
        for _ in range(120):
            parameters = ("p", "q")[:source.randint(0, 2)]
            names = tuple((name, source.choice(["none", "true", "false"])) for name in "abc"[:source.randint(0, 3)])
            program = helper.some_program(source, parameters, names, places=4, rows=8)
            history = helper.some_history(source, program, 5)
            run, wanted = Run(program), play(program, history)
            for number, (kinds, answers) in enumerate(history):
                given = answers if number % 2 else tuple(answers)
                self.assertEqual(run(kinds, given), wanted[number][:2])
                self.assertEqual(run.holding(), wanted[number][2])
                self.check_run(run, program, history[:number + 1])

    def test_answers_by_name_or_left_out(self):
        run = run_of(CACHE, [((), ["t"])])
        self.assertEqual(run(()), ([], ("value", o(0, "event", 0))))
        self.assertEqual(run(answers=[], kinds=()), run(kinds=(), answers=()))
        self.assertEqual(run.history, [((), ["t"])] + [((), [])] * 3)

    def test_calls_that_are_wanting(self):
        run = run_of(PAIRS, [(("t", "f"), ["t", "n"])])
        first = ("f", ())
        for kinds in [("t", "n"), ("f", "f")]:
            self.check_refused(run, Wanting, kinds, [], events=[first])
            self.check_refused(run, Wanting, kinds, (), events=[first])
            self.check_refused(run, Wanting, kinds, events=[first])
            self.check_refused(run, Wanting, kinds, ["f"], events=[first, ("g", (o(1, "event", 0), o(1, "name", "p")))])
        self.assertEqual(run(("n", "t"), ["x"]), ([first], ("failed", 0)))

    def test_answers_that_are_not_used(self):
        run = run_of(CACHE, [((), ["x"])])
        for answers, count in [(["t", "t"], 1), (("x", "t"), 1), (["n", "f", "x", "t"], 3), (["x"] * 20, 19)]:
            self.check_refused(run, Unused, (), answers, count=count)
        run((), ["f"])
        for answers, count in [(["t"], 1), (("x",), 1), (["t", "t"], 2)]:
            self.check_refused(run, Unused, (), answers, count=count)
        self.check_refused(run_of(PAIRS), Unused, ("t", "t"), ["x", "t"], count=1)

    def test_no_calls(self):
        for parameters, kinds in [((), ()), (("p",), ("t",)), (("p", "q"), ("n", "f"))]:
            run = run_of((parameters, kept("a"), (("set", "a", F), ("give", A))), [(kinds, ["t"])])
            wrong = [*[value for value in helper.no_values() if value != kinds], list(kinds), "".join(kinds), {}]
            wrong += [(*kinds, "t"), kinds[1:] if kinds else ("t",), ("x",) * len(kinds) if kinds else ("x",)]
            wrong += [(kind,) * len(kinds) for kind in [None, True, "T", "", "tf", ("t",), ["t"]] if kinds]
            for value in wrong:
                if value != kinds:
                    self.check_refused(run, InvalidCall, value, ["t"])
                    self.check_refused(run, InvalidCall, value)
            for answers in [*helper.no_values(), "t", "", {}, {"t": 1}, ["q"], ("q",), ["t", None], [["t"]], ("tf",),
                            ["t", "q"]]:
                self.check_refused(run, InvalidCall, kinds, answers)
            self.assertEqual(run(kinds, ["f"])[1], ("value", o(1, "event", 0)))

    def test_what_is_handed_in_or_returned_may_be_changed(self):
        run, answers = Run(PAIRS), ["t", "f"]
        events, _ = run(("t", "t"), answers)
        answers.append("x")
        events.clear()
        history = run.history
        self.assertEqual(history, [(("t", "t"), ["t", "f"])])
        history[0][1].clear()
        history.clear()
        self.check_run(run, PAIRS, [(("t", "t"), ["t", "f"])])
        with self.assertRaises(Wanting) as caught:
            run(("t", "t"))
        caught.exception.events.clear()
        self.check_refused(run, Wanting, ("t", "t"), events=[("f", ())])
        # What is compared is what was told, and not what became of it.
        loaded = Run(CACHE)
        events, _ = loaded((), ["t"])
        events.append(("g", ()))
        self.assertIsNone(loaded.same_future(run_of(CACHE, [((), ["t"])])))
        found = run_of(LAST).same_future(run_of((*LAST[:2], (*LAST[2][:1], ("give", P)))))
        again = run_of(LAST).same_future(run_of((*LAST[:2], (*LAST[2][:1], ("give", P)))))
        found[0][1].append("q")
        found.clear()
        self.assertEqual(again, [(("f",), [])])

    def test_properties_are_not_assigned(self):
        run = run_of(CACHE, [((), ["t"])])
        for name in ["program", "history"]:
            with self.assertRaises(AttributeError):
                setattr(run, name, [])
        self.check_run(run, CACHE, [((), ["t"])])

    def test_many_calls(self):
        run = Run(CACHE)
        for _ in range(3000):
            run((), ["x"])
        run((), ["f"])
        self.assertEqual((len(run), run.holding()), (3001, (o(3000, "event", 0),)))
        self.assertIsNone(run.same_future(run.copy()))


class UndoTest(RunCase):
    def test_undo(self):
        source = random.Random(322)
        for _ in range(40):
            program = helper.some_program(source, ("p",), kept("a", "b"), places=3, rows=8)
            history = helper.some_history(source, program, 5)
            run = run_of(program, history)
            for number in reversed(range(5)):
                self.assertIsNone(run.undo())
                self.check_run(run, program, history[:number])
            self.check_error(NothingToUndo, run.undo)
            self.check_run(run, program, [])
            for kinds, answers in history:
                run(kinds, answers)
            self.check_run(run, program, history)

    def test_nothing_to_undo(self):
        run = Run(CACHE)
        self.check_error(NothingToUndo, run.undo)
        run((), ["t"])
        run.undo()
        self.check_error(NothingToUndo, run.undo)
        self.check_run(run, CACHE, [])

    def test_copies(self):
        history = [(("t",), []), (("f",), [])]
        run = run_of(LAST, history)
        other = run.copy()
        self.assertIsNot(run, other)
        self.check_run(other, LAST, history)
        self.assertEqual(other(("t",)), ([], ("value", o(1, "name", "p"))))
        self.check_run(run, LAST, history)
        run.undo()
        run.undo()
        self.check_run(other, LAST, [*history, (("t",), [])])
        third = other.copy()
        other.undo()
        self.check_run(third, LAST, [*history, (("t",), [])])
        self.check_run(run, LAST, [])

    def test_equality(self):
        runs = [run_of(program, history) for program in [CACHE, (*CACHE[:2], (*CACHE[2], ("give", NONE)))]
                for history in [[], [((), ["t"])], [((), ["f"])], [((), ["t"]), ((), [])]]]
        for at, one in enumerate(runs):
            for number, other in enumerate(runs):
                self.assertIs(one == other, at == number)
                self.assertIs(one != other, at != number)
            self.assertIs(one == one.copy(), True)
            for other in [*helper.no_values(), CACHE, one.history, (one.program, one.history)]:
                self.assertIs(one == other, False)
        one = run_of(CACHE, [((), ("t",))])
        self.assertIs(one == run_of(CACHE, [((), ["t"])]), True)
        undone = run_of(CACHE, [((), ["f"])])
        undone.undo()
        undone((), ["t"])
        self.assertIs(one == undone, True)


class TrialTest(RunCase):
    HISTORY = [((), ["x"]), ((), ["f"])]

    def test_it_gives_the_run_itself(self):
        run = run_of(CACHE, self.HISTORY)
        with run.trial() as same:
            self.assertIs(same, run)
            same(())
        self.check_run(run, CACHE, [*self.HISTORY, ((), [])])

    def test_without_an_error_the_run_stays(self):
        run = run_of(CACHE, self.HISTORY)
        with run.trial():
            run.undo()
            run.undo()
            run((), ["t"])
        self.check_run(run, CACHE, [((), ["t"])])

    def test_an_error_goes_on(self):
        """And the run has its history again, whatever was done to it."""
        for error, change in [
                (Broken, lambda run: break_it()), (Wanting, lambda run: run_and(run, lambda: (run.undo(), run(())))),
                (Unused, lambda run: run((), ["t"])), (InvalidCall, lambda run: run(["t"])),
                (NothingToUndo, lambda run: [run.undo() for _ in range(4)]),
                (KeyError, lambda run: {}[run.undo()]), (KeyboardInterrupt, lambda run: interrupt(run))]:
            run = run_of(CACHE, self.HISTORY)
            with self.assertRaises(error):
                with run.trial() as same:
                    same(())
                    change(same)
            self.check_run(run, CACHE, self.HISTORY)
            with self.assertRaises(error):
                with run.trial():
                    change(run.copy())
                    change(run)
            self.check_run(run, CACHE, self.HISTORY)
            self.assertEqual(run(()), ([], ("value", o(1, "event", 0))))

    def test_undo_and_copies_in_the_block(self):
        run = run_of(CACHE, self.HISTORY)
        with self.assertRaises(Broken):
            with run.trial():
                run.undo()
                copied = run.copy()
                run.undo()
                run((), ["t"])
                late = run.copy()
                copied((), ["n"])
                raise Broken
        self.check_run(run, CACHE, self.HISTORY)
        self.check_run(copied, CACHE, [((), ["x"]), ((), ["n"])])
        self.check_run(late, CACHE, [((), ["t"])])
        # What happens to the copies later leaves the run alone, and the other way round.
        copied.undo()
        late(())
        run.undo()
        self.check_run(run, CACHE, self.HISTORY[:1])
        self.check_run(late, CACHE, [((), ["t"]), ((), [])])

    def test_blocks_within_blocks(self):
        run = run_of(CACHE, self.HISTORY)
        with self.assertRaises(Broken):
            with run.trial():
                run(())
                with self.assertRaises(Wanting):
                    with run.trial():
                        run.undo()
                        run.undo()
                        run(())
                self.check_run(run, CACHE, [*self.HISTORY, ((), [])])
                with run.trial():
                    run(())
                self.check_run(run, CACHE, [*self.HISTORY, ((), []), ((), [])])
                raise Broken
        self.check_run(run, CACHE, self.HISTORY)
        with run.trial():
            with self.assertRaises(Broken):
                with run.trial():
                    with run.trial():
                        run.undo()
                    run.undo()
                    raise Broken
            run(())
        self.check_run(run, CACHE, [*self.HISTORY, ((), [])])

    def test_the_history_is_that_at_the_beginning_of_the_block(self):
        run = run_of(CACHE, self.HISTORY[:1])
        trial = run.trial()
        run((), ["f"])
        with self.assertRaises(Broken):
            with trial:
                run(())
                raise Broken
        self.check_run(run, CACHE, self.HISTORY)
        # An error that stays in the block is none that leaves it.
        with run.trial():
            try:
                run((), ["t"])
            except Unused:
                run(())
        self.check_run(run, CACHE, [*self.HISTORY, ((), [])])


def break_it():
    raise Broken


def interrupt(run):
    run.undo()
    raise KeyboardInterrupt


def run_and(run, change):
    run.undo()
    change()


class AttemptTest(RunCase):
    def test_what_it_returns(self):
        run = run_of(LAST, [(("f",), [])])
        self.assertEqual(attempt(run, []), [])
        self.check_run(run, LAST, [(("f",), [])])
        calls = [(("t",), []), (("n",), ()), None, None, (("f",), []), (("t",), ())]
        self.assertEqual(self.check_attempt(run, calls), [([], ("value", o(0, "name", "p"))), ([], ("value", NONE)),
            ([], ("value", NONE)), ([], ("value", o(1, "name", "p")))])
        self.check_run(run, LAST, [(("f",), []), (("f",), []), (("t",), [])])
        self.assertEqual(attempt(calls=[None, None], run=run), [])
        self.check_run(run, LAST, [(("f",), [])])

    def check_attempt(self, run, calls):
        """Also with a list of its own, which stays as it is."""
        before = [item if item is None else (item[0], type(item[1])(item[1])) for item in calls]
        found = attempt(run, calls)
        self.assertEqual(calls, before)
        return found

    def test_none_takes_back_what_was_there(self):
        run = run_of(LAST, [(("f",), []), (("t",), [])])
        self.assertEqual(attempt(run, [None, None, (("n",), [])]), [([], ("value", NONE))])
        self.check_run(run, LAST, [(("n",), [])])

    def test_the_first_error(self):
        history = [((), ["x"]), ((), ["t"])]
        for calls, error, attributes in [
                ([((), []), None, None, ((), [])], Wanting, {"events": [("load", ())]}),
                ([((), []), ((), ["t"]), ((), ("q",))], Unused, {"count": 1}),
                ([((), []), ((), ("q",)), ((), ["t"])], InvalidCall, {}), ([((), []), ([], [])], InvalidCall, {}),
                ([None, None, None], NothingToUndo, {}), ([None, ((), ["n"]), None, None, None, None], NothingToUndo,
                    {}),
                ([((), None)], InvalidCall, {}), ([("t", [])], InvalidCall, {}),
                ([None, ((), ["f", "t"])], Unused, {"count": 1})]:
            run = run_of(CACHE, history)
            with self.assertRaises(OperandError) as caught:
                attempt(run, calls)
            self.assertIs(type(caught.exception), error)
            for name, value in attributes.items():
                self.assertEqual(getattr(caught.exception, name), value)
            self.check_run(run, CACHE, history)

    def test_by_chance(self):
        source = random.Random(323)
        told = {True: 0, False: 0}
        for _ in range(300):
            program = source.choice([CACHE, LAST, PAIRS])
            history = helper.some_history(source, program, source.randint(0, 3))
            calls = [source.choice([None, *helper.some_history(source, program, 2), *helper.some_history(source,
                program, 2)])
                     for _ in range(source.randint(0, 5))]
            run, other, found = run_of(program, history), run_of(program, history), []
            try:
                for item in calls:
                    if item is None:
                        other.undo()
                    else:
                        found.append(other(*item))
            except OperandError as error:
                told[False] += 1
                with self.assertRaises(type(error)):
                    attempt(run, calls)
                self.check_run(run, program, history)
            else:
                told[True] += 1
                self.assertEqual(attempt(run, calls), found)
                self.check_run(run, program, other.history)
        self.assertGreater(min(told.values()), 50)


def least_difference(one, other, history, most):
    """The least further calls of up to so many for which the programs differ, by playing all; or None."""
    places = max(helper.program_places(one), helper.program_places(other))
    found = {repr(calls): told_by_places(other, played)
             for calls, played in helper.further_calls(other, history, most, places)}
    for calls, played in helper.further_calls(one, history, most, places):
        if found.get(repr(calls)) != told_by_places(one, played):
            return calls
    return None


class SameFutureTest(RunCase):
    def check_future(self, one, other, history, most=2):
        first, second = run_of(one, history), run_of(other, history)
        found = first.same_future(second)
        self.check_run(first, one, history)
        self.check_run(second, other, history)
        if found is not None and len(found) <= most:
            self.assertEqual(found, least_difference(one, other, history, len(found)))
        else:
            self.assertIsNone(least_difference(one, other, history, most))
        if found is not None:
            played, again = Played(one, history + found), Played(other, history + found)
            self.assertEqual(len(played.calls), len(again.calls))
            self.assertTrue(all(call.complete for call in played.calls[:-1] + again.calls[:-1]))
            self.assertNotEqual(told_by_places(one, played.calls[-1]), told_by_places(other, again.calls[-1]))
        return found

    def test_behind_what_parts_them_no_more(self):
        """A program that stops to load where another one goes on, and behind it does not."""
        default = ((), kept("d"), (("set", "d", ("default", D, call("load"))), ("give", D)))
        either = ((), kept("d"), (("set", "d", ("or", D, call("load"))), ("give", D)))
        self.assertEqual(compare_programs(CACHE, either), ("unlike", [((), ["f"]), ((), [])]))
        self.assertEqual(self.check_future(CACHE, either, []), [((), ["f"]), ((), [])])
        self.assertIsNone(self.check_future(CACHE, either, [((), ["t"])]))
        self.assertIsNone(self.check_future(CACHE, either, [((), ["x"]), ((), ["n"]), ((), ["t"]), ((), [])]))
        self.assertEqual(self.check_future(CACHE, either, [((), ["f"])]), [((), [])])
        for history in [[], [((), ["f"])], [((), ["n"]), ((), ["t"])]]:
            self.assertIsNone(self.check_future(CACHE, default, history))
            self.assertIsNone(run_of(CACHE, history).same_future(other=run_of(default, history)))

    def test_objects_that_came_ahead(self):
        """What both hold is one object if it came from one source."""
        first = (("p",), kept("a"), (("if", ("isnone", A), (("set", "a", P), ("give", NONE)), ()), ("give", A)))
        turned = (("q",), kept("b"), (("if", ("isnone", B), (("set", "b", Q), ("give", NONE)), ()), ("give", B)))
        self.assertIsNone(self.check_future(first, turned, [(("n",), []), (("f",), [])]))
        last = (("q",), kept("b"), (("if", ("isnone", B), (("set", "b", Q), ("give", NONE)), ()),
            ("if", Q, (("give", B),), ()), ("set", "b", Q), ("give", B)))
        self.assertEqual(self.check_future(first, last, [(("n",), []), (("f",), [])]), [(("f",), [])])
        kinds = (("p",), kept("a"), (("set", "a", ("if", A, TRUE, P)), ("give", ("if", P, A, NONE))))
        same = (("p",), kept("a"), (("set", "a", ("if", A, TRUE, P)), ("give", ("and", P, A))))
        self.check_future(kinds, same, [(("t",), []), (("t",), [])])

    def test_parameters_by_their_places(self):
        one = (("p", "q"), kept("a"), (("set", "a", ("default", A, Q)), ("give", ("if", P, A, Q))))
        other = (("q", "p"), kept("c"), (("set", "c", ("default", C, P)), ("give", ("if", Q, C, P))))
        crossed = (("q", "p"), kept("c"), (("set", "c", ("default", C, Q)), ("give", ("if", Q, C, P))))
        for history in [[], [(("t", "f"), [])], [(("f", "n"), []), (("t", "t"), [])]]:
            self.assertIsNone(self.check_future(one, other, history))
        self.assertEqual(self.check_future(one, crossed, []), [(("t", "t"), [])])
        history = [(("f", "f"), [])]
        self.assertEqual(self.check_future(one, crossed, history), [(("t", "t"), [])])
        self.check_error(NotAlike, run_of(one, [(("t", "t"), [])]).same_future, run_of(crossed, [(("t", "t"), [])]))

    def test_runs_that_were_copied_taken_back_and_called_again(self):
        either = ((), kept("d"), (("set", "d", ("or", D, call("load"))), ("give", D)))
        one, other = Run(CACHE), Run(either)
        for run in (one, other):
            run((), ["f"])
        self.assertEqual(one.same_future(other), [((), [])])
        copied = one.copy()
        for run in (one, other):
            run.undo()
            run((), ["t"])
        self.assertIsNone(one.same_future(other))
        self.check_error(NotAlike, copied.same_future, other)
        copied.undo()
        self.check_error(NotAlike, copied.same_future, other)
        copied((), ["t"])
        self.assertIsNone(copied.same_future(other))
        self.assertIsNone(other.same_future(copied))
        with self.assertRaises(Broken):
            with other.trial():
                other.undo()
                raise Broken
        self.assertIsNone(copied.same_future(other))
        self.assertIsNone(copied.same_future(copied))
        self.assertIsNone(copied.same_future(one))

    def test_many_runs(self):
        source = random.Random(331)
        told = {"parted": 0, "same": 0, "not alike": 0}
        while min(told.values()) < 25:
            parameters = ("p", "q")[:source.choice([0, 1, 1, 2])]
            names = tuple((name, source.choice(["none", "none", "true", "false"])) for name in "ab"[:source.randint(1,
                2)])
            places = min(2, 3 - len(parameters))
            one = source.choice([helper.lively_program, helper.keeping_program])(source, parameters, names, places)
            other = self.like(source, one)
            history = helper.some_history(source, one, source.randint(0, 3))
            try:
                second = run_of(other, history)
            except OperandError:
                continue
            alike = all(told_by_places(one, first) == told_by_places(other, last)
                        for first, last in zip(Played(one, history).calls, Played(other, history).calls))
            if not alike:
                told["not alike"] += 1
                self.check_error(NotAlike, run_of(one, history).same_future, second)
            else:
                found = self.check_future(one, other, history, 1 if len(parameters) > 1 else 2)
                told["same" if found is None else "parted"] += 1

    def like(self, source, program):
        """A program that is like this one, but for a row, and the order of the names that it keeps."""
        parameters, names, rows = program
        rows = list(rows)
        at = source.randrange(len(rows))
        name = ("name", source.choice(names)[0])
        rows[at] = source.choice([rows[at], rows[at], ("try", (rows[at],), ()), ("if", TRUE, (rows[at],), ()),
            ("set", name[1], name), ("if", name, (rows[at],), ())])
        return (parameters, names[::-1], tuple(rows))

    def test_at_the_bounds(self):
        source = random.Random(332)
        programs = helper.large_programs()
        nothing = ((), (), (("try", (("if", F, (("try", (("if", G, (), ()),), ()),), (("if", call("h"), (), ()),)),),
            ()),))
        one = (*programs[0][:2], (*programs[0][2][:-1], ("give", NONE)))
        history = helper.some_history(source, one, 40)
        first, second = run_of(one, history), run_of(nothing, history)
        self.assertIsNone(self.check_call(first.same_future, second))
        self.assertIsNone(self.check_call(second.same_future, first))


class FutureErrorsTest(RunCase):
    def test_the_order_of_the_errors(self):
        wide = ((), kept("a", "b", "c"), (("give", A),))
        many = ((), (), (("give", helper.joined([F] * 4)),))
        two = (("p",), kept("a"), (("give", P),))
        # Other numbers of parameters come first.
        for one, other in [(wide, two), (many, two), (CACHE, two), (two, (("p", "q"), (), ()))]:
            for first in [run_of(one), run_of(other)]:
                second = run_of(other) if first.program == one else run_of(one)
                self.check_error(InvalidPair, first.same_future, second)
        self.check_error(InvalidPair, run_of(CACHE, [((), ["t"])]).same_future, run_of(two, [(("t",), [])]))
        # Then other histories, and other events or outcomes.
        self.check_error(NotAlike, run_of(wide, [((), [])]).same_future, run_of(wide))
        self.check_error(NotAlike, run_of(many, [((), ["f"])]).same_future, run_of(many, [((), ["n"])]))
        self.check_error(NotAlike, run_of(wide, [((), [])]).same_future, run_of((*wide[:2], (("give", TRUE),)), [((),
            [])]))
        # Then programs that are not compared.
        self.check_error(TooMany, run_of(wide, [((), [])]).same_future, run_of(wide, [((), [])]))
        self.check_error(TooMany, run_of(many).same_future, run_of(many))
        self.check_error(TooMany, run_of(many).same_future, run_of(((), (), ())))
        self.check_error(TooMany, run_of(((), (), ())).same_future, run_of(many))
        self.check_error(TooMany, run_of(wide).same_future, run_of((*wide[:2], (("give", TRUE),))))
        self.assertIsNone(run_of(wide).same_future(run_of(((), kept("a"), (("give", A),)))))

    def test_histories_that_are_not_alike(self):
        one = ((), kept("a"), (("set", "a", F), ("give", ("not", A))))
        for other in [((), kept("a"), (("set", "a", G), ("give", ("not", A)))), ((), (), (("give", F),)),
                      ((), kept("a"), (("give", ("not", call("f", NONE))),)), ((), (), (("give", ("isnone", F)),))]:
            history = [((), ["f"])]
            self.check_error(NotAlike, run_of(one, history).same_future, run_of(other, history))
            self.check_error(NotAlike, run_of(other, history).same_future, run_of(one, history))
            self.assertIsNotNone(run_of(one).same_future(run_of(other)))
        for one, other in [([], [((), ["t"])]), ([((), ["t"])], [((), ["f"])]), ([((), ["x"])] * 2, [((), ["x"])])]:
            self.check_error(NotAlike, run_of(CACHE, one).same_future, run_of(CACHE, other))
        for kind in KINDS:
            for other in KINDS:
                if kind != other:
                    self.check_error(NotAlike, run_of(LAST, [((kind,), [])]).same_future, run_of(LAST, [((other,),
                        [])]))

    def test_the_last_call_counts_too(self):
        """Which event it is that fails, and what came ahead of it."""
        caught = ((), (), (("give", call("g", F)),))
        other = ((), (), (("give", call("g", call("f"))),))
        self.assertIsNone(run_of(caught, [((), ["t", "x"])]).same_future(run_of(other, [((), ["t", "x"])])))
        third = ((), (), (("give", call("g", ("and", F, NONE))),))
        self.assertIsNone(run_of(caught, [((), ["x"])]).same_future(run_of(caught, [((), ["x"])])))
        self.assertEqual(run_of(caught, [((), ["x"])]).same_future(run_of(third, [((), ["x"])])), [((), ["t"])])
        self.check_error(NotAlike, run_of(caught, [((), ["t", "x"])]).same_future, run_of(third, [((), ["t", "x"])]))
        links = ((), (), (("give", compare(NONE, ("<", FALSE))),))
        self.check_error(NotAlike, run_of(links, [((), ["t"])]).same_future,
            run_of(((), (), (("give", compare(NONE, (">", FALSE))),)), [((), ["t"])]))


if __name__ == "__main__":
    unittest.main()
