"""Promise [28]: machines that hold objects in places, and a machine for each program that holds no more than needed."""

import random
import unittest

import helper
from helper import A, B, BARRED, C, Case, FALSE, KINDS, NONE, Played, SIGNS, TRUE, call, obj
from keptops.errors import InvalidHistory, InvalidMachine, InvalidProgram, TooMany
from keptops.machines import machine, run_machine
from keptops.needs import most_needed
from keptops.programs import play

F, G = call("f"), call("g")
P, Q = ("name", "p"), ("name", "q")
E0, E1, P0, Q0 = ("event", 0), ("event", 1), ("parameter", 0), ("parameter", 1)
PLACE, SECOND = ("place", 0), ("place", 1)


def kept(*names):
    return tuple((name, "none") for name in names)


def end(value=NONE, following=0, *hold):
    return ("end", ("value", value), following, hold)


def failed(number, following=0, *hold):
    return ("end", ("failed", number), following, hold)


def ask(word, operands, answered, otherwise):
    return ("ask", word, operands, (answered, otherwise))


def test(operand, *trees):
    return ("test", operand, trees)


# It loads once, and then gives what it holds.
LOADED = ((), 0, ((0, ask("load", (), end(E0, 1, E0), failed(0))), (1, end(PLACE, 1, PLACE))))
CACHE = ((), kept("c"), (("if", ("isnone", C), (("set", "c", call("load")),), ()), ("give", C)))


class Running:
    """What run_machine is to return, in `told`; and the numbers of the states that come, in `states`."""

    def __init__(self, found, history):
        self.parameters, state, self.trees = found
        self.told, self.states, held = [], [state], []
        for number, (kinds, answers) in enumerate(history):
            self.number, self.answers, self.events = number, answers, []
            self.objects = {"place": held, "parameter": [((number, ("name", name)), kind)
                for name, kind in zip(self.parameters, kinds)]}
            outcome, state, held = self.go(self.trees[state][1])
            self.told.append((self.events, outcome))
            if outcome == ("wanting",):
                break
            self.states.append(state)

    def object(self, operand):
        match operand:
            case ("event", number):
                return ((self.number, ("event", number)), self.answers[number])
            case (word, number):
                return self.objects[word][number]

    def value(self, operand):
        if len(operand) == 1:
            return operand
        source, kind = self.object(operand)
        return NONE if kind == "n" else ("object", source)

    def go(self, tree):
        match tree:
            case ("end", outcome, following, hold):
                if outcome[0] == "value":
                    outcome = ("value", self.value(outcome[1]))
                return outcome, following, [self.object(operand) for operand in hold]
            case ("test", operand, trees):
                return self.go(dict(zip(KINDS, trees))[self.object(operand)[1]])
            case ("ask", word, operands, (answered, otherwise)):
                self.events.append((word, tuple(self.value(operand) for operand in operands)))
                if len(self.events) > len(self.answers):
                    return ("wanting",), None, None
                return self.go(otherwise if self.answers[len(self.events) - 1] == "x" else answered)


class MachineCase(Case):
    def check_run(self, found, history):
        told = self.check_call(run_machine, found, history)
        self.assertEqual(told, Running(found, history).told)
        return told


def o(number, *source):
    return obj(number, source)


class RunTest(MachineCase):
    def test_objects_in_places(self):
        told = self.check_run(LOADED, [((), ["x"]), ((), ["t"]), ((), []), ((), ["f"])])
        self.assertEqual(told, [([("load", ())], ("failed", 0))] + [
            ([("load", ())], ("value", o(1, "event", 0))), ([], ("value", o(1, "event", 0))),
            ([], ("value", o(1, "event", 0)))])
        self.assertEqual(self.check_call(run_machine, LOADED, []), [])

    def test_objects_that_are_none(self):
        """They are held like others."""
        self.assertEqual(self.check_run(LOADED, [((), ["n"]), ((), [])]),
            [([("load", ())], ("value", NONE)), ([], ("value", NONE))])
        looks = (("p",), 0, ((0, end(NONE, 1, P0)), (1, test(PLACE, end(TRUE, 1, PLACE), end(FALSE, 1, PLACE),
            ask("f", (PLACE,), end(NONE, 1, PLACE), failed(0, 1, PLACE))))))
        self.assertEqual(self.check_run(looks, [(("n",), []), (("t",), ["t"]), (("f",), ["x"])]),
            [([], ("value", NONE)), ([("f", (NONE,))], ("value", NONE)), ([("f", (NONE,))], ("failed", 0))])
        for kind, value in [("t", TRUE), ("f", FALSE)]:
            self.assertEqual(self.check_run(looks, [((kind,), []), (("t",), [])])[1], ([], ("value", value)))

    def test_handed_on_in_another_order_twice_or_not_at_all(self):
        turns = (("p", "q"), 0, (
            (0, end(NONE, 1, Q0, P0)),
            (2, test(P0, end(PLACE, 1, SECOND, PLACE), end(SECOND, 2, PLACE, PLACE, P0), end(Q0, 3, SECOND))),
            (3, ask("f", (PLACE, SECOND, ("place", 2)), end(E0, 1, E0, ("place", 2)), failed(0, 0))),
            (1, end(PLACE, 3, PLACE))))
        source = random.Random(281)
        for _ in range(60):
            history = [((source.choice("tfn"), source.choice("tfn")), [source.choice("tfnx")] * source.randint(0, 1))
                       for _ in range(6)]
            self.check_run(turns, history)
        told = self.check_run(turns, [(("t", "f"), []), (("t", "t"), []), (("f", "t"), []), (("n", "n"), ["t"])])
        first, second = o(0, "name", "p"), o(0, "name", "q")
        self.assertEqual(told, [([], ("value", NONE)), ([], ("value", second)), ([], ("value", second)),
            ([("f", (first, first, o(2, "name", "p")))], ("value", o(3, "event", 0)))])

    def test_tests(self):
        by_kind = (("p", "q"), 0, ((0, test(Q0, end(TRUE), end(FALSE), test(P0, end(P0), end(Q0), end(NONE)))),))
        for p in KINDS:
            for q in KINDS:
                wanted = {"t": TRUE, "f": FALSE, "n": o(0, "name", "p") if p == "t" else NONE}[q]
                self.assertEqual(self.check_run(by_kind, [((p, q), [])]), [([], ("value", wanted))])
        by_answer = ((), 0, ((0, ask("f", (), ask("g", (), test(E0, end(E1), end(E0), end(TRUE)), failed(1)),
            end(FALSE))),))
        for first in KINDS:
            for second in "tfnx":
                self.check_run(by_answer, [((), [first, second]), ((), ["x"]), ((), [first])])
        self.assertEqual(run_machine(by_answer, [((), ["f", "t"])])[0][1], ("value", o(0, "event", 0)))

    def test_trees_behind_a_failed_event(self):
        """The events behind it are numbered on, and it is still one that failed."""
        again = ((), 0, ((0, ask("f", (), end(E0), ask("<", (NONE, TRUE), end(E1), ask("g", (FALSE,), failed(1),
            failed(2))))),))
        for answers, outcome in [(["t"], o(0, "event", 0)), (["x", "f"], o(0, "event", 1)), (["x", "n"], NONE)]:
            self.assertEqual(self.check_run(again, [((), answers)])[0][1], ("value", outcome))
        self.assertEqual(self.check_run(again, [((), ["x", "x", "t"])])[0],
            ([("f", ()), ("<", (NONE, TRUE)), ("g", (FALSE,))], ("failed", 1)))
        self.assertEqual(self.check_run(again, [((), ["x", "x", "x"])])[0][1], ("failed", 2))
        # A failed event whose call ends with a value, or with an earlier failure.
        caught = ((), 0, ((0, ask("f", (), end(E0), ask("g", (), failed(0), end(TRUE)))),))
        self.assertEqual([told[1] for told in self.check_run(caught, [((), ["x", "t"]), ((), ["x", "x"])])],
            [("failed", 0), ("value", TRUE)])

    def test_calls_that_are_wanting_and_answers_too_many(self):
        two = ((), 0, ((0, ask("f", (), ask("g", (E0,), end(E1, 1, E0), failed(1)), failed(0))),
            (1, ask("h", (PLACE,), end(PLACE), failed(0)))))
        self.assertEqual(self.check_run(two, [((), [])]), [([("f", ())], ("wanting",))])
        self.assertEqual(self.check_run(two, [((), ["t"]), ((), ["t", "t"])]),
            [([("f", ()), ("g", (o(0, "event", 0),))], ("wanting",))])
        self.assertEqual(self.check_run(two, [((), ["t", "f", "x", "t"]), ((), ["f", "f"])]),
            [([("f", ()), ("g", (o(0, "event", 0),))], ("value", o(0, "event", 1))),
                ([("h", (o(0, "event", 0),))], ("value", o(0, "event", 0)))])
        self.assertEqual(len(self.check_run(two, [((), ["t", "f"]), ((), []), ((), ["t"])])), 2)
        self.assertEqual(len(self.check_run(two, [((), ["x", "t"])] * 3)), 3)

    def test_at_the_bounds(self):
        deep = end()
        for _ in range(29):
            deep = test(P0, deep, end(), end())
        self.check_run((("p",), 0, ((0, deep),)), [(("t",), []), (("f",), [])])
        for tree in [levels_of(30), ask("f", (), levels_of(29), end()), ask("f", (), end(), levels_of(29)),
                     ask("f", (), end(), ask("f", (), levels_of(28), levels_of(28)))]:
            self.check_run((("p",), 0, ((0, tree),)), [(("n",), ["x", "t"]), (("f",), ["t"])])
        six = end(("event", 5), 1, *[("event", number) for number in (0, 1, 2, 3, 4, 5, 0, 5)])
        for number in reversed(range(6)):
            six = ask("f", (("event", number - 1),) * 3 if number else (), six, failed(number))
        wide = ((), 0, ((0, six), (8, ask("==", (("place", 7), PLACE), end(("place", 7)), failed(0)))))
        self.check_run(wide, [((), list("tfntfn")), ((), ["t"]), ((), list("tfntfx"))])
        self.check_run(wide, [((), list("tfntft"))] + [((), ["x"])])
        many = tuple((0, test(P0, end(P0, (at + 1) % 2000), end(NONE, at), end(NONE, 1999))) for at in range(2000))
        self.check_run((("p",), 1999, many), [(("t",), [])] * 3 + [(("n",), [])] + [(("f",), [])] * 96)
        # 3,000 trees, and 31 levels with the 30 of trees and the state's tuple.
        branches = end()
        for _ in range(28):
            branches = test(P0, branches, *[test(Q0, end(P0), end(Q0), end())] * 2)
        self.check_run((("p", "q"), 0, ((0, branches),) * 12), [(("t", "f"), []), (("f", "n"), [])])


def in_state(tree, places=0, parameters=("p", "q")):
    """A machine with a tree of its second state."""
    return (parameters, 0, ((0, end()), (places, tree), (2, end())))


def operands_that_are_none(happened, places, parameters):
    """Operands that are wrong where the events that happened were answered or failed."""
    wrong = [*helper.no_values(), (), ("none", 0), ("place",), ("event",), ("parameter", 0, 0), ["place", 0],
        ["none"], ("object", 0), ("name", "p"), ("Place", 0), ("", 0), (None, 0), (("place",), 0), ("nil",),
        (["none"],)]
    for word, many in [("place", places), ("parameter", parameters)]:
        wrong += [(word, number) for number in [many, many + 1, -1, 10 ** 29, True, False, None, "0", (0,), [0], {}]]
    wrong += [("event", number) for number, answered in enumerate(happened) if not answered]
    return wrong + [("event", number) for number in [len(happened), 7, -1, True, False, None, "0", (0,), [0]]]


def bad_trees():
    """Tuples of a tree that is none, the places of its state, and the parameters of its machine."""
    pq = ("p", "q")
    plain = [*helper.no_values(), (), [], {}, ("end",), ["end", ("value", NONE), 0, ()], end()[:3]]
    plain += [(*end(), 0), ("End", *end()[1:]), ("", *end()[1:]), (None, *end()[1:]), (("end",), *end()[1:]), NONE, P0]
    plain += [("test", P0), ("test", P0, (end(),) * 2), ("test", P0, (end(),) * 4), ("test", P0, [end()] * 3)]
    plain += [("test", P0, (end(),) * 3, 0), ("test", P0, end()), ("test", P0, end(), end(), end()), ("test", P0, None)]
    plain += [("ask", "f", ()), ask("f", (), end(), end())[:3], (*ask("f", (), end(), end()), 0)]
    plain += [("ask", "f", (), (end(),)), ("ask", "f", (), (end(),) * 3), ("ask", "f", (), [end(), end()])]
    plain += [("ask", "f", (), end(), end()), ("ask", "f", (), None), ("ask", "f", (), {0: end(), 1: end()})]
    plain += [(word, P0, (end(),) * 3) for word in ["tests", "Test", "", "ask", None, 0, ("test",), ["test"]]]
    words = ["asks", "Ask", "", "test", "end", None, 0, ("ask",), ["ask"]]
    plain += [(word, "f", (), (end(), end())) for word in words]
    # Outcomes.
    outcomes = [*helper.no_values(), (), ("value",), ("failed",), ("value", NONE, NONE), ["value", NONE], ("wanting",)]
    outcomes += [("values", NONE), ("", NONE), (None, NONE), (("value",), NONE), ("failed", 0), ("failed", NONE)]
    outcomes += [("wanting", 0), ("done", NONE), ("value", 0), ("value", "none"), ("value", None)]
    plain += [("end", outcome, 0, ()) for outcome in outcomes]
    # Next states, and what is held.
    plain += [("end", ("value", NONE), number, ()) for number in [3, 4, -1, 10 ** 29, True, False, None, "0", (0,)]]
    plain += [("end", ("value", NONE), 0, hold) for hold in [(P0,), [], None, "", {}, ((),), 0]]
    plain += [("end", ("value", NONE), 2, hold) for hold in [(), (P0,), (P0,) * 3, [P0, P0], None, {0: P0, 1: P0}, P0]]
    plain += [end(NONE, 2, P0, constant) for constant in (NONE, TRUE, FALSE)] + [end(NONE, 2, NONE, P0)]
    # Words, and numbers of operands.
    words = ["", "F", "f1", "a b", "abcdefghi", "=", "<>", "??", *BARRED, None, True, 0, ("f",), ["f"], {}]
    plain += [ask(word, (), end(), end()) for word in words] + [ask(word, (NONE,) * 2, end(), end()) for word in words]
    plain += [ask("f", operands, end(), end()) for operands in [(P0,) * 4, [], [P0], None, {}, "", 0, NONE, P0]]
    plain += [ask(sign, (P0,) * many, end(), end()) for sign in SIGNS for many in (0, 1, 3)]
    found = [(tree, 0, pq) for tree in plain]
    # Each operand in each position.
    for wrong in operands_that_are_none([], 1, 1):
        found += [(tree, 1, ("p",)) for tree in around(wrong)]
        if wrong not in (NONE, TRUE, FALSE):
            found += [(tree, 1, ("p",)) for tree in [end(wrong), ask("f", (wrong,), end(), end()),
                ask("f", (P0, NONE, wrong), end(), end()), ask("<", (PLACE, wrong), end(), end())]]
    found += [(tree, 1, ()) for tree in around(P0)] + [(tree, 0, ("p",)) for tree in around(PLACE)]
    found += [(tree, 0, ()) for constant in (NONE, TRUE, FALSE) for tree in around(constant)]
    # Events that did not happen, or failed, on this way.
    for tree in [end(E0), *around(E0), ask("g", (E0,), end(), end()), ask("g", (), end(E0), failed(1))]:
        found += [(ask("f", (), end(E0), tree), 0, pq), (tree, 0, pq)]
    for word in ["events", "Event", "", "name", "kept", "answer", None, 0, ("event",), ["event"]]:
        for tree in [end((word, 0)), *around((word, 0)), ask("g", ((word, 0),), end(), end())]:
            found += [(ask("f", (), tree, failed(0)), 0, pq)]
    for tree in [end(E1), *around(E1), ask("g", (E1,), end(), end()), failed(0), failed(1), failed(True), failed(-1)]:
        found += [(ask("f", (), tree, failed(0)), 0, pq)]
    for tree in [failed(1), failed(2), failed(False), failed(True), failed(None), failed("0"), failed(E0)]:
        found += [(ask("f", (), end(), tree), 0, pq), (ask("f", (), end(), ask("g", (), tree, end())), 0, pq)]
    found += [(ask("f", (), ask("g", (), end(E1), failed(0)), failed(0)), 0, pq)]
    found += [(ask("f", (), ask("g", (), end(E1), end(E1)), failed(0)), 0, pq)]
    # A seventh event on a way, and 31 levels.
    seven = end()
    for _ in range(7):
        seven = ask("f", (), seven, end())
    for way in [lambda tree: ask("f", (), end(), tree), lambda tree: ask("<", (NONE, NONE), tree, end()),
                lambda tree: test(P0, end(), end(), tree)]:
        last = ask("f", (), end(), failed(6))
        for _ in range(6):
            last = ask("f", (), end(), last)
        found += [(way(last), 0, pq)]
    deep = levels_of(31)
    found += [(ask("f", (), levels_of(30), end()), 0, pq), (ask("f", (), end(), levels_of(30)), 0, pq)]
    found += [(ask("f", (), end(), ask("f", (), levels_of(29), end())), 0, pq)]
    return found + [(seven, 0, pq), (deep, 0, pq), (ask("f", (), deep, end()), 0, pq)]


def levels_of(many):
    """A tree with so many levels."""
    tree = end()
    for _ in range(many - 1):
        tree = test(P0, end(), end(), tree)
    return tree


def deep_tree(levels):
    tree = end()
    for _ in range(levels):
        tree = ("test", P0, (tree,))
    return tree


def around(operand):
    """Trees with the operand where just objects may stand."""
    return [test(operand, end(), end(), end()), end(NONE, 2, operand, P0), end(NONE, 2, P0, operand)]


class InvalidMachineTest(MachineCase):
    def test_the_way_in(self):
        """What the wrong machines below are made of is right."""
        for places, tree in [(0, end()), (1, end(PLACE, 2, PLACE, P0)), (0, test(P0, end(), end(), end())),
                             (0, ask("f", (), end(E0), failed(0))), (1, ask("<", (PLACE, P0), end(), end())),
                             (0, ask("f", (P0, NONE, Q0), end(NONE, 2, E0, P0), end(NONE, 2, P0, Q0))),
                             (0, ask("f", (), ask("g", (E0,), test(E1, end(), end(), end()), failed(1)), failed(0)))]:
            self.check_run(in_state(tree, places), [(("t", "f"), [])])

    def test_trees(self):
        for tree, places, parameters in bad_trees():
            wrong = in_state(tree, places, parameters)
            self.check_error(InvalidMachine, run_machine, wrong, None)
            if len(parameters) == 2:
                for outer in [test(Q0, end(), tree, end()), ask("f", (), end(), tree)]:
                    if not right_behind(tree):
                        self.check_error(InvalidMachine, run_machine, in_state(outer, places, parameters), [])

    def test_trees_that_are_very_deep(self):
        for levels in (31, 100, 900, 2990):
            with self.assertRaises(InvalidMachine):
                run_machine(in_state(deep_tree(levels)), [])

    def test_states(self):
        for states in [*helper.no_values(), (), [], [(0, end())], ((0, end()),) * 2001, (0, end()), {0: (0, end())}]:
            self.check_error(InvalidMachine, run_machine, ((), 0, states), [])
        for state in [*helper.no_values(), (), (0,), (0, end(), 0), [0, end()], end(), (end(), 0)]:
            for states in [(state,), ((0, end()), state), (state, (0, end()))]:
                for begin in (0, 1):
                    self.check_error(InvalidMachine, run_machine, ((), begin, states), [])
        for places in [9, 10, -1, True, False, None, "0", (0,), [], 10 ** 29]:
            self.check_error(InvalidMachine, run_machine, ((), 0, ((0, end()), (places, end()))), [])
            self.check_error(InvalidMachine, run_machine, ((), 1, ((0, end()), (places, end()))), [])
        self.check_run(((), 0, ((0, end()), (8, end()))), [((), [])])

    def test_the_beginning(self):
        states = ((0, end()), (1, end()), (0, end()))
        for begin in [1, 3, 4, -1, True, False, None, "0", (0,), [0], 10 ** 29, {}]:
            self.check_error(InvalidMachine, run_machine, ((), begin, states), [])
        for begin in (0, 2):
            self.check_run(((), begin, states), [((), [])])

    def test_parameters(self):
        states = ((0, end()),)
        for parameters in [*[value for value in helper.no_values() if value != ("a",)], [], {}, ["p"], ("p", "p"),
                           ("p", "q", "r"), "p", {"p": "t"}, ("p", None), ("P",), ("if",), ("abcdefghi",), ("",)]:
            self.check_error(InvalidMachine, run_machine, (parameters, 0, states), [])
        for parameters in [(), ("p",), ("q", "p"), ("abcdefgh",)]:
            self.check_run((parameters, 0, states), [(("t",) * len(parameters), [])])

    def test_other_values(self):
        good = ((), 0, ((0, end()),))
        for wrong in [*helper.no_values(), (), good[:2], (*good, ()), list(good), {0: good}, [good], good[2], CACHE]:
            self.check_error(InvalidMachine, run_machine, wrong, None)

    def test_wrong_histories(self):
        for kinds in [(), ("t",), ("t", "f")]:
            found = (("p", "q")[:len(kinds)], 0, ((0, end()),))
            for wrong in helper.bad_histories(kinds):
                self.check_error(InvalidHistory, run_machine, found, wrong)
        self.check_error(InvalidHistory, run_machine, LOADED, [((), []), ((), ["q"])])


def right_behind(tree):
    """Whether a wrong tree may be right behind an event of which it tells."""
    return "event" in repr(tree) or "failed" in repr(tree)


class MachineTest(MachineCase):
    def check_machine(self, program, most=2, histories=()):
        """It tells the same for all histories up to some length, and others; it holds no more than needed."""
        found = machine(program)
        number, _ = most_needed(program)
        self.assertEqual(found[0], program[0])
        for history in [*helper.histories([program], most), *histories]:
            told = run_machine(found, history) if len(history) > 3 else Running(found, history).told
            self.assertEqual(told, [call[:2] for call in Played(program, history).told()])
        states, waiting = {found[1]}, [found[1]]
        while waiting:
            for following in ends(found[2][waiting.pop()][1]):
                if following not in states:
                    states.add(following)
                    waiting.append(following)
        self.assertLessEqual(max(found[2][state][0] for state in states), number)
        self.assertEqual(run_machine(found, []), [])
        return found

    def test_the_cache(self):
        found = self.check_call(machine, CACHE)
        self.check_machine(CACHE, 3)
        self.assertEqual(max(places for places, _ in found[2]), 1)
        history = [((), ["x"]), ((), ["n"]), ((), ["f"]), ((), [])]
        self.assertEqual(self.check_call(run_machine, found, history), [call[:2] for call in play(CACHE, history)])

    def test_each_kind_of_row(self):
        programs = [((), (), ()), (("p",), (), ()), (("p", "q"), (), (("give", Q),)), ((), kept("a"), (("give", A),))]
        programs += [(("p",), kept("a"), (("set", "a", ("default", A, P)), ("give", A)))]
        programs += [(("p", "q"), kept("a", "b"), (("if", P, (("set", "a", Q),), (("set", "b", A), ("give", B))),))]
        programs += [((), kept("a"), (("set", "a", F), ("give", call("g", A))))]
        programs += [((), kept("a"), (("try", (("set", "a", F),), (("set", "a", G),)), ("give", call("h", A))))]
        programs += [((), kept("a", "b"), (("try", (("set", "a", F), ("set", "b", G)), (("give", B),)), ("give", A)))]
        programs += [(("p",), kept("a"), (("try", (("if", call("f", P), (("set", "a", P),), ()),), ()),
            ("give", call("g", A))))]
        programs += [((), (("a", "true"), ("b", "false")), (("give", ("if", A, B, A)), ("set", "a", F)))]
        for program in programs:
            self.check_call(machine, program)
            self.check_machine(program, 2 if program_size(program) > 2 else 3)

    def test_objects_that_change_places(self):
        swap = (("p",), kept("a", "b"), (("if", P, (("give", A),), ()), ("set", "a", B), ("set", "b", P)))
        found = self.check_machine(swap, 4)
        self.assertEqual(max(places for places, _ in found[2]), most_needed(swap)[0])
        twice = (("p", "q"), kept("a", "b"), (("if", ("isnone", P), (("give", call("f", A, B)),), ()),
            ("if", Q, (("set", "a", P), ("set", "b", P)), (("set", "b", A), ("set", "a", P)))))
        self.check_machine(twice, 2)

    def test_one_object_in_two_names_ahead_of_another_one(self):
        rows = (("if", ("isnone", A), (("set", "a", P), ("set", "b", P), ("set", "c", Q), ("give", NONE)), ()),
            ("if", P, (("give", B),), ()), ("if", Q, (("give", C),), ()))
        found = self.check_machine((("p", "q"), kept("a", "b", "c"), rows), 3)
        self.assertEqual(max(places for places, _ in found[2]), 2)

    def test_objects_that_are_not_needed(self):
        """The machine keeps just their kinds."""
        truth = (("p",), kept("a"), (("if", A, (("set", "a", P), ("give", TRUE)), (("set", "a", P), ("give", NONE))),))
        found = self.check_machine(truth, 4)
        self.assertEqual({places for places, _ in found[2]}, {0})
        half = (("p",), kept("a", "b"), (("if", ("and", P, A), (("give", B),), ()), ("set", "b", ("if", A, B, P)),
            ("set", "a", P)))
        found = self.check_machine(half, 4)
        self.assertEqual(max(places for places, _ in found[2]), 1)

    def test_many_programs(self):
        source = random.Random(282)
        most = [0] * 5
        for _ in range(150):
            parameters = ("p", "q")[:source.choice([0, 0, 1, 1, 2])]
            names = tuple((name, source.choice(["none", "none", "true", "false"]))
                          for name in "abcd"[:source.randint(0 if source.random() < 0.2 else 1, 4)])
            places = min(source.randint(0, 3), 3 - len(parameters))
            if not names or source.random() < 0.3:
                program = helper.some_program(source, parameters, names, places, rows=8)
            else:
                program = source.choice([helper.lively_program, helper.keeping_program])(
                    source, parameters, names, places)
            long = [helper.some_history(source, program, 8) for _ in range(6)]
            found = self.check_machine(program, 1 if program_size(program) > 2 else 2, long)
            most[max(places for places, _ in found[2])] += 1
        self.assertGreater(min(most[:3]), 1)

    def test_at_the_bounds(self):
        source = random.Random(283)
        for program in helper.large_programs():
            found = self.check_call(machine, program)
            self.assertLessEqual(max(places for places, _ in found[2]), most_needed(program)[0])
            for many in (3, 30, 100):
                history = helper.some_history(source, program, many)
                self.assertEqual(self.check_call(run_machine, found, history), [call[:2] for call in
                    play(program, history)])

    def test_errors(self):
        for wrong in helper.bad_programs()[::2]:
            self.check_error(InvalidProgram, machine, wrong)
        beyond, within = helper.too_many_places()
        for program in beyond:
            self.check_error(TooMany, machine, program)
        for program in within:
            self.check_call(machine, program)


def program_size(program):
    return helper.program_places(program) + len(program[0])


def ends(tree):
    """The numbers of the states behind a tree."""
    match tree:
        case ("end", _, following, _):
            return [following]
        case ("test", _, trees) | ("ask", _, _, trees):
            return [following for behind in trees for following in ends(behind)]


if __name__ == "__main__":
    unittest.main()
